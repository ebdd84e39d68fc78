/-
  ParseShaped: the law's own shaped and all, of what is read.
-/
import Derived.Test.YtnamineofpeahaaGreatDoorPaShP
import Derived.Test.YtnamineofpeahaaGreatDoorPaSh2
import Derived.Test.YtnamineofpeahaaGreatDoorPaSh3
import Derived.Test.YtnamineofpeahaaGreatDoorPaSh4
namespace Go.Proofs.YtnamineofpeahaaGreatDoor
open Go.RowKit

theorem rds_of {w : World} {A : Nat → Prop} {ad : Option Addr} {n cap : Nat} {l : List (Int × Int × Wd)} (h : RowAt Kr w A (.slice ad n cap) l) (hA : ∀ k, A k → k < w.heap.size) (hr : ∀ r ∈ l, Rdok r) : RdsAt w ad l.length := fun i hi => by
 obtain ⟨g, cap', e1, hg, hel⟩ := h.el (by omega)
 injection e1 with e1 e2 e3
 obtain ⟨cs, ⟨v, rfl, hv⟩, hc⟩ := hel i _ (List.getElem?_eq_getElem hi)
 obtain ⟨va, vc, rfl, _⟩ := hv.len
 have := hr _ (List.getElem_mem hi)
 exact ⟨g, _, _, va, _, vc, e1, hc 0 _ rfl, hc 1 _ rfl, hc 2 _ rfl, hA g hg, this⟩
set_option maxHeartbeats 2000000 in
theorem shaped_any {w : World} {A : Nat → Prop} {c : Cm} {x : CV} (h : CmAt w A c x.l) (hs : ShC c) (hA : ∀ k, A k → k < w.heap.size) : Calls Tryz.prog 32 #[.agg #[.int .i64 x.k, .bool x.no, .slice x.al x.nl x.cl, .slice x.aw x.nw x.cw, .slice x.ar x.nr x.cr, .slice x.ac x.nc x.cc, .string (BA x.nm), .bool x.ev, .slice x.ai x.ni x.ci]] w fun e w' => e = .returned (.bool true) ∧ Below w.heap.size w w' := by
 cases hs with
 | mk k no lets words redirs cmds name ev items hk hn hr hc hi hb =>
   obtain ⟨vl, vw, vr, vc, vi, e, hl, hw, hrr, hcc, hii⟩ := h.rows
   obtain ⟨al, cl, rfl⟩ := hl.slice
   obtain ⟨aw, cw, rfl⟩ := hw.slice
   obtain ⟨ar, cr, rfl⟩ := hrr.slice
   obtain ⟨ac, cc, rfl⟩ := hcc.slice
   obtain ⟨ai, ci, rfl⟩ := hii.slice
   have hrd := rds_of hrr hA hr
   have hn1 := hn.1
   have ha : #[Value.int .i64 x.k, .bool x.no, .slice x.al x.nl x.cl, .slice x.aw x.nw x.cw, .slice x.ar x.nr x.cr, .slice x.ac x.nc x.cc, .string (BA x.nm), .bool x.ev, .slice x.ai x.ni x.ci] = #[Value.int .i64 k, .bool no, .slice al lets.length cl, .slice aw words.length cw, .slice ar redirs.length cr, .slice ac cmds.length cc, .string (BA name), .bool ev, .slice ai items.length ci] := congrArg List.toArray e
   rw [ha]
   clear ha e h hl hw hrr hcc hii hr hc hi hb hn
   generalize lets.length = a at hk ⊢
   generalize words.length = b at hk ⊢
   generalize redirs.length = r at hk hrd hn1 ⊢
   generalize cmds.length = n at hk ⊢
   generalize items.length = i at hk ⊢
   obtain ⟨m, hm⟩ : ∃ m, m = name.length := ⟨_, rfl⟩
   rw [← hm] at hk
   have h0 : m = 0 → BA name = ⟨#[]⟩ := fun e => by rw [List.eq_nil_of_length_eq_zero (l := name) (by omega)]; rfl
   have h1 : 0 < m → (BA name).toList ≠ [] := fun h e => by
    rw [ByteArray.toList_eq] at e
    have : name = [] := e
    rw [this] at hm
    simp at hm
    omega
   have s1 := shp_1 w al aw ar ac ai cl cw cr cc ci a b r n i k no ev (BA name)
   have s2 := shp_2 w al aw ar ac ai cl cw cr cc ci a b r n i k no ev (BA name)
   have s3 := shp_3 w al aw ar ac ai cl cw cr cc ci a b r n i k no ev (BA name)
   have s4 := shp_4 w al aw ar ac ai cl cw cr cc ci a b r n i k no ev (BA name)
   cases hk with
   | simple a b r h h2 => exact s1 (.inl ⟨rfl, rfl, rfl, h0 rfl, rfl, rfl, h, h2⟩) hn1 hrd
   | pipe no n h =>
     cases no with
     | true =>
       by_cases h2 : 1 < n
       ·exact s1 (.inr (.inr (.inl ⟨rfl, rfl, rfl, h0 rfl, rfl, rfl, rfl, h2, rfl⟩))) hn1 hrd
       ·exact s1 (.inr (.inl ⟨rfl, rfl, rfl, (h.resolve_left h2).1, h0 rfl, rfl, rfl, rfl, rfl⟩)) hn1 hrd
     | false => exact s1 (.inr (.inr (.inr (.inl ⟨rfl, rfl, rfl, h0 rfl, rfl, rfl, rfl, h.resolve_right (fun e => by cases e.2), rfl⟩)))) hn1 hrd
   | and => exact s1 (.inr (.inr (.inr (.inr ⟨rfl, rfl, rfl, rfl, rfl, h0 rfl, rfl, rfl, rfl⟩)))) hn1 hrd
   | or => exact s2 (.inl ⟨rfl, rfl, rfl, rfl, rfl, h0 rfl, rfl, rfl, rfl⟩) hn1 hrd
   | seq n h => exact s2 (.inr (.inl ⟨rfl, rfl, rfl, rfl, h0 rfl, rfl, rfl, h, rfl⟩)) hn1 hrd
   | group r => exact s2 (.inr (.inr (.inl ⟨rfl, rfl, rfl, rfl, rfl, h0 rfl, rfl, rfl⟩))) hn1 hrd
   | sub r => exact s2 (.inr (.inr (.inr (.inl ⟨rfl, rfl, rfl, rfl, rfl, h0 rfl, rfl, rfl⟩)))) hn1 hrd
   | func r m hm => exact s2 (.inr (.inr (.inr (.inr ⟨rfl, rfl, rfl, rfl, rfl, rfl, rfl, h1 hm⟩)))) hn1 hrd
   | if2 r n h =>
     rcases h with rfl | rfl
     ·exact s3 (.inl ⟨rfl, rfl, rfl, rfl, rfl, h0 rfl, rfl, rfl⟩) hn1 hrd
     ·exact s3 (.inr (.inl ⟨rfl, rfl, rfl, rfl, rfl, h0 rfl, rfl, rfl⟩)) hn1 hrd
   | «while» r => exact s3 (.inr (.inr (.inl ⟨rfl, rfl, rfl, rfl, rfl, h0 rfl, rfl, rfl⟩))) hn1 hrd
   | «until» r => exact s3 (.inr (.inr (.inr ⟨rfl, rfl, rfl, rfl, rfl, h0 rfl, rfl, rfl⟩))) hn1 hrd
   | «for» b r m ev h hm =>
     cases ev with
     | true => exact s4 (.inl ⟨rfl, rfl, rfl, h rfl, rfl, rfl, rfl, h1 hm⟩) hn1 hrd
     | false => exact s4 (.inr (.inl ⟨rfl, rfl, rfl, rfl, rfl, rfl, h1 hm⟩)) hn1 hrd
   | case r i =>
     by_cases hi : 0 < i
     ·exact s4 (.inr (.inr (.inr ⟨rfl, rfl, rfl, rfl, rfl, h0 rfl, rfl, hi⟩))) hn1 hrd
     ·exact s4 (.inr (.inr (.inl ⟨rfl, rfl, rfl, rfl, rfl, h0 rfl, rfl, by omega⟩))) hn1 hrd

end Go.Proofs.YtnamineofpeahaaGreatDoor

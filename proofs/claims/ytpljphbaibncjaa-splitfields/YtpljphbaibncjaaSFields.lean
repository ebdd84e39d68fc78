/-
  Fields: pieces as fields.
-/
import Derived.Test.YtpljphbaibncjaaSEnd
import Derived.Test.YtpljphbaibncjaaSKinds
import Derived.Deep.LoopGhost
namespace Go.Proofs.Ytpljphbaibncjaa
open Go.RowKit

/-- A slice of pieces. -/
def PRow (w : World) (v : Value) (l : List Pc) : Prop := ∃ ad cap, v = .slice ad l.length cap ∧ ∀ (i : Nat) (x : Pc), l[i]? = some x → ∃ g o, ad = some ⟨g, o, none⟩ ∧ g < w.heap.size ∧
  w.cell? ⟨g, o + i * 4, none⟩ = some (.string (BA x.text)) ∧ w.cell? ⟨g, o + i * 4 + 1, none⟩ = some (.bool x.q) ∧ w.cell? ⟨g, o + i * 4 + 2, none⟩ = some (.bool x.s) ∧ w.cell? ⟨g, o + i * 4 + 3, none⟩ = some (.bool x.b)
theorem PRow.below {w w' : World} {v : Value} {l : List Pc} (h : PRow w v l) (hb : Below w.heap.size w w') : PRow w' v l := by
  obtain ⟨ad, cap, rfl, h⟩ := h
  refine ⟨ad, cap, rfl, fun i x hi => ?_⟩
  obtain ⟨g, o, rfl, hg, c0, c1, c2, c3⟩ := h i x hi
  exact ⟨g, o, rfl, Nat.lt_of_lt_of_le hg hb.size, (hb.cell (p := ⟨g, _, none⟩) hg).trans c0, (hb.cell (p := ⟨g, _, none⟩) hg).trans c1, (hb.cell (p := ⟨g, _, none⟩) hg).trans c2, (hb.cell (p := ⟨g, _, none⟩) hg).trans c3⟩
/-- A slice of bools; a slice of fields. -/
def QRow (w : World) (v : Value) (l : List Bool) : Prop := ∃ ad cap, v = .slice ad l.length cap ∧ ∀ (i : Nat) (x : Bool), l[i]? = some x → ∃ g, ad = some ⟨g, 0, none⟩ ∧ g < w.heap.size ∧ w.cell? ⟨g, i, none⟩ = some (.bool x)
theorem QRow.below {w w' : World} {v : Value} {l : List Bool} (h : QRow w v l) (hb : Below w.heap.size w w') : QRow w' v l := by
  obtain ⟨ad, cap, rfl, h⟩ := h
  refine ⟨ad, cap, rfl, fun i x hi => ?_⟩
  obtain ⟨g, rfl, hg, c0⟩ := h i x hi
  exact ⟨g, rfl, Nat.lt_of_lt_of_le hg hb.size, (hb.cell (p := ⟨g, _, none⟩) hg).trans c0⟩
def FRow (w : World) (v : Value) (l : List Fd) : Prop := ∃ ad cap, v = .slice ad l.length cap ∧ ∀ (i : Nat) (x : Fd), l[i]? = some x → ∃ g q, ad = some ⟨g, 0, none⟩ ∧ g < w.heap.size ∧
  w.cell? ⟨g, i * 2, none⟩ = some (.string (BA (ftx x))) ∧ w.cell? ⟨g, i * 2 + 1, none⟩ = some q ∧ QRow w q (fqs x)
theorem FRow.below {w w' : World} {v : Value} {l : List Fd} (h : FRow w v l) (hb : Below w.heap.size w w') : FRow w' v l := by
  obtain ⟨ad, cap, rfl, h⟩ := h
  refine ⟨ad, cap, rfl, fun i x hi => ?_⟩
  obtain ⟨g, q, rfl, hg, c0, c1, hq⟩ := h i x hi
  exact ⟨g, q, rfl, Nat.lt_of_lt_of_le hg hb.size, (hb.cell (p := ⟨g, _, none⟩) hg).trans c0, (hb.cell (p := ⟨g, _, none⟩) hg).trans c1, hq.below hb⟩
theorem frow_of {w : World} {B e : Nat} {v : Value} {L : List (Fd × Value)} (h : w.ownsRow B e 2 v L.length (flatF L)) (hs : ∀ x ∈ L, QRow w x.2 (fqs x.1)) : FRow w v (L.map Prod.fst) := by
  obtain ⟨_, ⟨hv, h0⟩ | ⟨g, cap, cur, hv, hb, hg, _, _, _, htk⟩⟩ := h
  · refine ⟨none, 0, by rw [hv, List.length_map, h0], fun i x hi => ?_⟩
    have := (List.getElem?_eq_some_iff.1 hi).1
    rw [List.length_map] at this
    omega
  · refine ⟨_, cap, by rw [List.length_map]; exact hv, fun i x hi => ?_⟩
    rw [List.getElem?_map] at hi
    obtain ⟨y, hy, rfl⟩ := Option.map_eq_some_iff.1 hi
    have hil := (List.getElem?_eq_some_iff.1 hy).1
    have hc : ∀ j u, (fcs y)[j]? = some u → j < 2 → w.cell? ⟨g, i * 2 + j, none⟩ = some u := fun j u hu hj => by
      have hp := flatF_get L i j y hy hj
      rw [hu, ← htk, List.getElem?_take, if_pos (by omega)] at hp
      exact Blk.cell (show Blk w g e cur from hg) (i * 2 + j) (by simpa using hp)
    exact ⟨g, y.2, rfl, (Array.getElem?_eq_some_iff.1 hg).1, hc 0 _ rfl (by omega), hc 1 _ rfl (by omega), hs y (List.mem_of_getElem? hy)⟩

/-- A slice of fields that a call has made. -/
def OwnF (w : World) (B : Nat) (v : Value) (l : List Fd) : Prop := ∃ L : List (Fd × Value), L.map Prod.fst = l ∧ w.ownsRow B 34 2 v L.length (flatF L) ∧ ∀ x ∈ L, OwnQ w B x.2 (fqs x.1)
theorem OwnF.row {w : World} {B : Nat} {v : Value} {l : List Fd} (h : OwnF w B v l) : FRow w v l := by
  obtain ⟨L, rfl, h1, h2⟩ := h
  exact frow_of h1 (fun x hx => (h2 x hx).form)
/-- What Fields has while it goes on. -/
def FI (w wr : World) (B bo bm bt bk : Nat) (ifs : List UInt8) (s : SS) : Prop := FS wr B bo bm bt s ∧ Blk wr bk 52 (kcells ifs) ∧ Below B w wr
theorem FI.turn {w wr w1 : World} {B bo bm bt bk : Nat} {ifs : List UInt8} {s s' : SS} (h : FI w wr B bo bm bt bk ifs s) (hF : FS w1 B bo bm bt s') (hT : Turn wr w1 B) : FI w w1 B bo bm bt bk ifs s' :=
  ⟨hF, hT.keep _ _ _ h.2.1 (by decide), h.2.2.trans hT.below⟩
theorem FI.kept {w wr w1 : World} {B bo bm bt bk : Nat} {ifs : List UInt8} {s : SS} (h : FI w wr B bo bm bt bk ifs s) (hb : Below wr.heap.size wr w1) : FI w w1 B bo bm bt bk ifs s :=
  ⟨h.1.kept hb, h.2.1.below hb h.2.1.lt, h.2.2.trans (hb.mono (Nat.le_trans h.1.size.2.2.2 (Nat.le_refl _)))⟩
theorem FI.mark {w wr : World} {B bo bm bt bk : Nat} {ifs : List UInt8} {s s' : SS} (h : FI w wr B bo bm bt bk ifs s) (h1 : s'.out = s.out) (h2 : s'.made = s.made) (h3 : s'.there = s.there) : FI w wr B bo bm bt bk ifs s' := ⟨h.1.mark h1 h2 h3, h.2⟩
/-- The closure, as Fields calls it. -/
theorem FI.end {w wr : World} {B bo bm bt bk : Nat} {ifs : List UInt8} {s : SS} (h : FI w wr B bo bm bt bk ifs s) (hl : sizS s ≤ 1000000) :
    Calls Try.prog 19 #[.pointer (some ⟨bo, 0, none⟩), .pointer (some ⟨bm, 0, none⟩), .pointer (some ⟨bt, 0, none⟩)] wr fun e w' => e = .returned (.tuple #[]) ∧ FI w w' B bo bm bt bk ifs (endS s) ∧ Turn wr w' B :=
  (end_any wr B bo bm bt s h.1 hl).mono fun _ _ ⟨h1, h2, h3⟩ => ⟨h1, h.turn h2 h3, h3⟩
theorem FI.add {w wr : World} {B bo bm bt bk : Nat} {ifs : List UInt8} {s : SS} (h : FI w wr B bo bm bt bk ifs s) (t : List UInt8) (q : Bool) (hl : sizS s + t.length ≤ 1000000) :
    Calls Try.prog 22 #[.pointer (some ⟨bm, 0, none⟩), .string (BA t), .bool q] wr fun e w' => e = .returned (.tuple #[]) ∧ FI w w' B bo bm bt bk ifs ⟨s.out, s.made ++ qt q t, s.there, s.mark⟩ ∧ Turn wr w' B := by
  have hsz := h.1.size.2.2.2
  obtain ⟨L, ov, tv, qv, hg⟩ := id h.1
  refine (add_any t q wr B bm tv qv _ _ hg.mb hg.own hg.oq hsz ?_ ?_).mono fun _ _ ⟨h1, h2⟩ => ?_
  · rw [ftx_len]; unfold sizS at hl; omega
  · rw [fqs_len]; unfold sizS at hl; omega
  · obtain ⟨h3, h4⟩ := hg.adds h2
    exact ⟨h1, h.turn h3 h4, h4⟩
theorem FI.store {w wr : World} {B bo bm bt bk : Nat} {ifs : List UInt8} {s : SS} (h : FI w wr B bo bm bt bk ifs s) (b : Bool) : FI w (wr.setCell ⟨bt, 0, none⟩ (.bool b)) B bo bm bt bk ifs ⟨s.out, s.made, b, s.mark⟩ ∧ Turn wr (wr.setCell ⟨bt, 0, none⟩ (.bool b)) B := by
  obtain ⟨h1, h2⟩ := h.1.store b
  exact ⟨h.turn h1 h2, h2⟩
theorem size_take {ifs : List UInt8} {l : List Pc} {M : Nat} (hM : ∀ p ∈ l, p.text.length ≤ M) (k : Nat) : sizS (runS ifs (l.take k)) ≤ k * (M + 1) := by
  have h1 := sizS_run ifs M (l.take k) ss0 (fun p hp => hM p (List.mem_of_mem_take hp))
  have h2 : (l.take k).length * (M + 1) ≤ k * (M + 1) := Nat.mul_le_mul_right _ (by simp; omega)
  have h3 : sizS ss0 = 0 := rfl
  unfold runS
  omega
theorem run_take {ifs : List UInt8} {l : List Pc} {k : Nat} {p : Pc} (h : l[k]? = some p) : runS ifs (l.take (k + 1)) = pieceS ifs (runS ifs (l.take k)) p := by
  unfold runS
  rw [List.take_add_one, h, List.foldl_append]
  rfl
theorem bytes_take {ifs : List UInt8} {s : SS} {t : List UInt8} {k : Nat} {c : UInt8} (h : t[k]? = some c) : (t.take (k + 1)).foldl (byteS ifs) s = byteS ifs ((t.take k).foldl (byteS ifs) s) c := by
  rw [List.take_add_one, h, List.foldl_append]
  rfl

theorem fi_start (w w1 : World) (ifs : List UInt8) (h0 : Below (((w.alloc (.cells #[.slice none 0 0] 27)).alloc (.cells #[.slice none 0 0, .slice none 0 0] 50)).alloc (.cells #[.bool false] 4)).heap.size (((w.alloc (.cells #[.slice none 0 0] 27)).alloc (.cells #[.slice none 0 0, .slice none 0 0] 50)).alloc (.cells #[.bool false] 4)) w1) :
    FI w (w1.alloc (.cells (kcells ifs) 52)) w.heap.size w.heap.size (w.heap.size + 1) (w.heap.size + 1 + 1) w1.heap.size ifs ss0 := by
  have h := h0.mono (show w.heap.size + 1 + 1 + 1 ≤ _ by simp)
  have k0 : Blk (((w.alloc (.cells #[.slice none 0 0] 27)).alloc (.cells #[.slice none 0 0, .slice none 0 0] 50)).alloc (.cells #[.bool false] 4)) w.heap.size 27 #[.slice none 0 0] := ((Blk.new w _ _).alloc _).alloc _
  have k1 : Blk (((w.alloc (.cells #[.slice none 0 0] 27)).alloc (.cells #[.slice none 0 0, .slice none 0 0] 50)).alloc (.cells #[.bool false] 4)) (w.heap.size + 1) 50 #[.slice none 0 0, .slice none 0 0] := by simpa using (Blk.new (w.alloc (.cells #[.slice none 0 0] 27)) _ _).alloc _
  have k2 : Blk (((w.alloc (.cells #[.slice none 0 0] 27)).alloc (.cells #[.slice none 0 0, .slice none 0 0] 50)).alloc (.cells #[.bool false] 4)) (w.heap.size + 1 + 1) 4 #[.bool false] := by simpa using Blk.new ((w.alloc (.cells #[.slice none 0 0] 27)).alloc (.cells #[.slice none 0 0, .slice none 0 0] 50)) 4 #[.bool false]
  have hb : Below w.heap.size w w1 := ((((Below.refl _ w).alloc (Nat.le_refl _) _).alloc (by simp) _).alloc (by simp; omega) _).trans (h.mono (by omega))
  refine ⟨FS.kept (w := w1) ⟨[], .slice none 0 0, .slice none 0 0, .slice none 0 0, ⟨k0.below h (by omega), k1.below h (by omega), k2.below h (by omega), World.ownsRow_nil _ _ _ _, ownB_nil _ _, ownQ_nil _ _, rfl, fun x hx => by simp at hx, (fun e => by cases e), ⟨Nat.le_refl _, by omega, by omega⟩⟩⟩ ((Below.refl _ _).alloc (Nat.le_refl _) _), Blk.new _ _ _, hb.trans (((Below.refl _ w1).alloc (Nat.le_refl _) _).mono hb.size)⟩

set_option maxRecDepth 100000 in
set_option maxHeartbeats 1500000 in
theorem fields_own (v : Value) (l : List Pc) (ifs : List UInt8) (w : World) (M : Nat) (h : PRow w v l) (hi : ifs.length ≤ 100000) (hM : ∀ p ∈ l, p.text.length ≤ M) (hl : (l.length + 1) * (M + 1) ≤ 900000) :
    Calls Try.prog 11 #[v, .string (BA ifs)] w fun e w' => ∃ u, e = .returned u ∧ Below w.heap.size w w' ∧ OwnF w' w.heap.size u (fieldsL ifs l) := by
  obtain ⟨ad, cap, rfl, hp⟩ := h
  obtain ⟨N, hN⟩ : ∃ N, N = l.length := ⟨_, rfl⟩
  rw [← hN] at hl ⊢
  have hNl : N ≤ 900000 := by
    have : (N + 1) * 1 ≤ (N + 1) * (M + 1) := Nat.mul_le_mul_left _ (by omega)
    omega
  have HP := hide hp
  have HN := hide hN
  have HM := hide hM
  have HLL : Hid (∀ k, k ≤ N → k * (M + 1) + M + 1 ≤ 900000) := hide (fun k hk => by
    have h1 : (k + 1) * (M + 1) ≤ (N + 1) * (M + 1) := Nat.mul_le_mul_right _ (by omega)
    rw [Nat.add_mul k 1] at h1
    omega)
  have hzk := zero_kinds
  have HK := hide (fun W => kinds_any ifs W hi)
  clear hp hN hM hl
  go_enter Try.func11, Try.ntmps11
  go_wp2_with fail
  go_step3
  go_wp2_with fail
  refine (unhide HK _).mono ?_
  rintro e w1 ⟨rfl, hB1⟩
  have HB1 := hide hB1
  have hsz := kcells_size ifs
  have hsc : (storeCells ⟨w1.heap.size, 0, none⟩ (kcells ifs).toList 0).run Try.prog (w1.alloc (.cells kz 52)) = .ok () (w1.alloc (.cells (kcells ifs) 52)) := run_storeCells_new w1 52 kz (kcells ifs) (size_kinds (kcells_size _)) (by rw [kcells_size]; rfl) (kcells_one _)
  clear hB1
  go_wp2
  go_step3
  go_wp2
  have HI : Hid (FI w (w1.alloc (.cells (kcells ifs) 52)) w.heap.size w.heap.size (w.heap.size + 1) (w.heap.size + 1 + 1) w1.heap.size ifs ss0) := hide (fi_start w w1 ifs (unhide HB1))
  clear HB1 hsc hsz hzk HK
  generalize w1.alloc (.cells (kcells ifs) 52) = W0 at HI ⊢
  generalize w1.heap.size = bk at HI ⊢
  generalize w.heap.size + 1 + 1 = bt at HI ⊢
  generalize w.heap.size + 1 = bm at HI ⊢
  have HPB : Hid (∀ (i : Nat) (x : Pc), l[i]? = some x → ∃ g o, ad = some ⟨g, o, none⟩ ∧ ∀ wr, Below w.heap.size w wr → 
    wr.cell? ⟨g, o + i * 4, none⟩ = some (.string (BA x.text)) ∧ wr.cell? ⟨g, o + i * 4 + 1, none⟩ = some (.bool x.q) ∧ wr.cell? ⟨g, o + i * 4 + 2, none⟩ = some (.bool x.s) ∧ wr.cell? ⟨g, o + i * 4 + 3, none⟩ = some (.bool x.b)) := hide (fun i x hi => by
      obtain ⟨g, o, e, hg, c0, c1, c2, c3⟩ := unhide HP i x hi
      exact ⟨g, o, e, fun wr hb => ⟨(hb.cell (p := ⟨g, _, none⟩) hg).trans c0, (hb.cell (p := ⟨g, _, none⟩) hg).trans c1, (hb.cell (p := ⟨g, _, none⟩) hg).trans c2, (hb.cell (p := ⟨g, _, none⟩) hg).trans c3⟩⟩)
  clear HP
  generalize hbo : w.heap.size = bo at HI HPB ⊢
  have HBO := hide hbo
  clear hbo
  go_loopg [8, 19] N (fun g mk i wr => ∃ k : Nat, k + g = N ∧ i = .int .i64 k ∧ mk = .bool (runS ifs (l.take k)).mark ∧ Hid (FI w wr bo bo bm bt bk ifs (runS ifs (l.take k))))
  case atStart => exact ⟨0, by omega, rfl, rfl, HI⟩
  case round =>
    clear HI W0
    obtain ⟨k, hkg, rfl, rfl, HI⟩ := hrel
    obtain ⟨s, hs⟩ : ∃ s, s = runS ifs (l.take k) := ⟨_, rfl⟩
    rw [← hs] at HI ⊢
    have HS := hide hs
    have HSZ : Hid (sizS s ≤ k * (M + 1)) := hide (by rw [hs]; exact size_take (unhide HM) k)
    clear hs
    obtain ⟨mk, hmk⟩ : ∃ b, s.mark = b := ⟨_, rfl⟩
    rw [hmk]
    have HMK := hide hmk
    clear hmk
    cases gk with
    | zero =>
      have hkz : ¬ ((k : Int) < (N : Int)) := by omega
      obtain ⟨th, hth⟩ : ∃ b, s.there = b := ⟨_, rfl⟩
      have ct := (unhide HI).1.there.1
      rw [hth] at ct
      have HTH := hide hth
      clear hth
      cases th with
      | true =>
        have HE := hide ((unhide HI).end (by have := unhide HSZ; have := unhide HLL k (by omega); omega))
        go_wp2_with fail
        refine (unhide HE).mono ?_
        rintro e w2 ⟨rfl, hF, hT⟩
        obtain ⟨L, ov, tv, qv, hg⟩ := hF.1
        have HG := hide hg
        have HF := hide hF
        have co : w2.cell? ⟨bo, 0, none⟩ = some ov := hg.ob.cell 0 rfl
        clear hg hF hT
        go_wp2
        (try rw [Exit.noGoto_ret])
        go_ret
        exact ⟨ov, rfl, by rw [unhide HBO]; exact (unhide HF).2.2, by
          rw [show fieldsL ifs l = L.map Prod.fst by
            rw [(unhide HG).out, unhide HS, show l.take k = l from List.take_of_length_le (by have := unhide HN; omega)]
            unfold fieldsL closeS
            rw [if_pos]
            rw [← show l.take k = l from List.take_of_length_le (by have := unhide HN; omega), ← unhide HS]
            exact unhide HTH]
          rw [unhide HBO]
          exact ⟨L, rfl, (unhide HG).row, fun x hx => ((unhide HG).sub x hx).1⟩⟩
      | false =>
        obtain ⟨L, ov, tv, qv, hg⟩ := (unhide HI).1
        have HG := hide hg
        have co : wr.cell? ⟨bo, 0, none⟩ = some ov := hg.ob.cell 0 rfl
        clear hg
        go_wp2
        (try rw [Exit.noGoto_ret])
        go_ret
        exact ⟨ov, rfl, by rw [unhide HBO]; exact (unhide HI).2.2, by
          rw [show fieldsL ifs l = L.map Prod.fst by
            rw [(unhide HG).out, unhide HS, show l.take k = l from List.take_of_length_le (by have := unhide HN; omega)]
            unfold fieldsL closeS
            rw [if_neg]
            rw [← show l.take k = l from List.take_of_length_le (by have := unhide HN; omega), ← unhide HS, unhide HTH]
            decide]
          rw [unhide HBO]
          exact ⟨L, rfl, (unhide HG).row, fun x hx => ((unhide HG).sub x hx).1⟩⟩
    | succ g =>
      obtain ⟨⟨t, q, sp, br⟩, hx⟩ : ∃ x, l[k]? = some x := ⟨_, List.getElem?_eq_getElem (by have := unhide HN; omega)⟩
      obtain ⟨ts, rfl⟩ : ∃ ts : ByteArray, t = ts.data.toList := ⟨BA t, rfl⟩
      have hkz : (k : Int) < (N : Int) := by omega
      have HR := hide (run_take (ifs := ifs) hx)
      have HTM : Hid (ts.size ≤ M) := hide (by have := unhide HM _ (List.mem_of_getElem? hx); rwa [data_len] at this)
      obtain ⟨gp, o, rfl, hc⟩ := unhide HPB k _ hx
      obtain ⟨c0, c1, c2, c3⟩ := hc wr (unhide HI).2.2
      simp only [BA_of] at c0 c1 c2 c3
      clear hc hx
      obtain ⟨th, hth⟩ : ∃ b, s.there = b := ⟨_, rfl⟩
      have HTH := hide hth
      have HIP : Hid (FI w (wr.alloc (.cells #[.string ts, .bool q, .bool sp, .bool br] 42)) bo bo bm bt bk ifs s) := hide ((unhide HI).kept ((Below.refl _ _).alloc (Nat.le_refl _) _))
      have ct := (unhide HIP).1.there.1
      rw [hth] at ct
      clear hth
      have HBD := hide (unhide HLL k (by omega))
      cases br with
      | true =>
        have HP1 : Hid (runS ifs (l.take (k + 1)) = offS (closeS s)) := hide (by rw [unhide HR, ← unhide HS]; rfl)
        cases th with
        | true =>
          have HE := hide ((unhide HIP).end (by have := unhide HSZ; have := unhide HBD; omega))
          go_wp2
          go_step3
          go_wp2_with fail
          refine (unhide HE).mono ?_
          rintro e w2 ⟨rfl, hF, hT⟩
          have HF := hide hF
          clear hF hT
          go_wp2
          (try rw [Exit.noGoto_exit])
          go_wp2
          go_roundg g
          case measure => omega
          case rel => exact ⟨k + 1, by omega, by go_num, by rw [unhide HP1]; rfl, hide (by rw [unhide HP1, show closeS s = endS s from if_pos (unhide HTH)]; exact (unhide HF).mark rfl rfl rfl)⟩
        | false =>
          go_wp2
          go_step3
          go_wp2
          (try rw [Exit.noGoto_exit])
          go_wp2
          go_roundg g
          case measure => omega
          case rel => exact ⟨k + 1, by omega, by go_num, by rw [unhide HP1]; rfl, hide (by rw [unhide HP1, show closeS s = s from if_neg (by rw [unhide HTH]; decide)]; exact (unhide HIP).mark rfl rfl rfl)⟩
      | false =>
        clear ct
        have HA := hide ((unhide HIP).add ts.data.toList q (by have := unhide HSZ; have := unhide HBD; have := unhide HTM; rw [data_len]; omega))
        rw [BA_of] at HA
        cases q with
        | true =>
          have HP1 : Hid (runS ifs (l.take (k + 1)) = addS s ts.data.toList true) := hide (by rw [unhide HR, ← unhide HS]; rfl)
          go_wp2
          go_step3
          go_wp2_with fail
          refine (unhide HA).mono ?_
          rintro e w2 ⟨rfl, hF, hT⟩
          obtain ⟨ct2, cf2⟩ := hF.1.there
          have HF2 := hide (hF.store true).1
          clear hF hT
          go_wp2
          (try rw [Exit.noGoto_exit])
          go_wp2
          go_roundg g
          case measure => omega
          case rel => exact ⟨k + 1, by omega, by go_num, by rw [unhide HP1]; rfl, hide (by rw [unhide HP1]; exact (unhide HF2).mark rfl rfl rfl)⟩
        | false =>
          have he : ts.toList.isEmpty = ts.data.toList.isEmpty := by rw [Lib.toList_data]
          cases sp with
          | false =>
            cases hte : ts.data.toList.isEmpty with
            | false =>
              rw [hte] at he
              have HP1 : Hid (runS ifs (l.take (k + 1)) = addS s ts.data.toList false) := hide (by rw [unhide HR, ← unhide HS]; unfold pieceS; simp only; rw [hte]; rfl)
              clear hte
              go_wp2
              go_step3
              go_wp2_with fail
              refine (unhide HA).mono ?_
              rintro e w2 ⟨rfl, hF, hT⟩
              obtain ⟨ct2, cf2⟩ := hF.1.there
              have HF2 := hide (hF.store true).1
              clear hF hT
              go_wp2
              (try rw [Exit.noGoto_exit])
              go_wp2
              go_roundg g
              case measure => omega
              case rel => exact ⟨k + 1, by omega, by go_num, by rw [unhide HP1]; rfl, hide (by rw [unhide HP1]; exact (unhide HF2).mark rfl rfl rfl)⟩
            | true =>
              rw [hte] at he
              have ht0 : ts.data.toList = [] := List.isEmpty_iff.1 hte
              have hs0 : ts.size = 0 := by rw [← data_len, ht0]; rfl
              have HP1 : Hid (runS ifs (l.take (k + 1)) = s) := hide (by rw [unhide HR, ← unhide HS]; unfold pieceS; simp only; rw [ht0]; rfl)
              clear hte HA ht0
              go_wp2
              go_step3
              go_wp2
              go_step3
              go_wp2
              go_loopg [8, 48] 0 (fun g2 m i wx => g2 = 0 ∧ i = .int .i64 0 ∧ m = .bool mk ∧ wx = wr.alloc (.cells #[.string ts, .bool false, .bool false, .bool false] 42))
              case atStart => exact ⟨rfl, rfl, rfl, rfl⟩
              case round =>
                obtain ⟨rfl, rfl, rfl, rfl⟩ := hrel
                go_wp2
                (try rw [Exit.noGoto_normal])
                go_wp2
                go_roundg g
                case measure => omega
                case rel => exact ⟨k + 1, by omega, by go_num, by rw [unhide HP1, unhide HMK], hide (by rw [unhide HP1]; exact unhide HIP)⟩
          | true =>
            clear HA he
            have HP1 : Hid (runS ifs (l.take (k + 1)) = ts.data.toList.foldl (byteS ifs) s) := hide (by rw [unhide HR, ← unhide HS]; rfl)
            have HPB2 : Hid (Blk (wr.alloc (.cells #[.string ts, .bool false, .bool true, .bool false] 42)) wr.heap.size 42 #[.string ts, .bool false, .bool true, .bool false]) := hide (Blk.new _ _ _)
            go_wp2
            go_step3
            go_wp2
            go_step3
            go_wp2
            generalize wr.alloc (.cells #[.string ts, .bool false, .bool true, .bool false] 42) = Wp at HIP HPB2 ⊢
            generalize wr.heap.size = bp at HPB2 ⊢
            go_loopg [8, 48] ts.size (fun g2 m i wx => ∃ j : Nat, j + g2 = ts.size ∧ i = .int .i64 j ∧ m = .bool ((ts.data.toList.take j).foldl (byteS ifs) s).mark ∧ Hid (FI w wx bo bo bm bt bk ifs ((ts.data.toList.take j).foldl (byteS ifs) s) ∧ Blk wx bp 42 #[.string ts, .bool false, .bool true, .bool false]))
            case atStart => exact ⟨0, by omega, rfl, by rw [← unhide HMK]; rfl, hide ⟨unhide HIP, unhide HPB2⟩⟩
            case round =>
              clear HIP HPB2 Wp
              obtain ⟨j, hjg, rfl, rfl, HJ⟩ := hrel
              obtain ⟨x, hx⟩ : ∃ x, x = (ts.data.toList.take j).foldl (byteS ifs) s := ⟨_, rfl⟩
              rw [← hx] at HJ ⊢
              have HX := hide hx
              have HXZ : Hid (sizS x ≤ k * (M + 1) + j) := hide (by have h1 := sizS_bytes ifs (ts.data.toList.take j) s; have h2 := unhide HSZ; have h3 := List.length_take_le j ts.data.toList; rw [hx]; omega)
              clear hx
              obtain ⟨xm, hxm⟩ : ∃ b, x.mark = b := ⟨_, rfl⟩
              rw [hxm]
              have HXM := hide hxm
              clear hxm
              have d0 := (unhide HJ).2.cell 0 rfl
              cases gk with
              | zero =>
                have hjz : ¬ ((j : Int) < (ts.size : Int)) := by omega
                have HE : Hid (ts.data.toList.take j = ts.data.toList) := hide (List.take_of_length_le (by rw [data_len]; omega))
                go_wp2
                (try rw [Exit.noGoto_normal])
                go_wp2
                go_roundg g
                case measure => omega
                case rel => exact ⟨k + 1, by omega, by go_num, by rw [unhide HP1, ← unhide HE, ← unhide HX, unhide HXM], hide (by rw [unhide HP1, ← unhide HE, ← unhide HX]; exact (unhide HJ).1)⟩
              | succ g2 =>
                have hjz : (j : Int) < (ts.size : Int) := by omega
                have hjn : j < ts.size := by omega
                have hjb : ts.size ≤ 900000 := by have := unhide HBD; have := unhide HTM; omega
                obtain ⟨c, hc⟩ : ∃ c : UInt8, ts[j]'hjn = c := ⟨_, rfl⟩
                have HB1 : Hid ((ts.data.toList.take (j + 1)).foldl (byteS ifs) s = byteS ifs x c) := hide (by rw [unhide HX]; exact bytes_take (by rw [List.getElem?_eq_getElem (by rw [data_len]; exact hjn), data_get ts j hjn, hc]))
                have HCX : Hid (ts.extract j (j + 1) = BA [c]) := hide (by rw [extract_take, drop_at hjn, hc]; rfl)
                have hc256 : (c.toNat : Int) < 256 := by have := UInt8.toNat_lt c; omega
                have HKI := hide (kindB_is ifs c)
                obtain ⟨kd, hkd⟩ : ∃ z, z = kindB ifs c := ⟨_, rfl⟩
                have dk := (unhide HJ).1.2.1.cell c.toNat (kcells_at ifs c)
                rw [← hkd] at dk HKI
                have HBY : Hid (byteS ifs x c = if kd = 1 then softS x else if kd = 2 then hardS x else addS x [c] false) := hide (by rw [hkd]; rfl)
                rw [unhide HBY] at HB1
                have HBD2 : Hid (sizS x + 1 ≤ 900000) := hide (by have := unhide HXZ; have := unhide HBD; have := unhide HTM; omega)
                clear hkd HBY
                rcases unhide HKI with rfl | rfl | rfl
                · have HA := hide ((unhide HJ).1.add [c] false (by have := unhide HBD2; simp; omega))
                  rw [← unhide HCX] at HA
                  go_wp2_with fail
                  refine (unhide HA).mono ?_
                  rintro e w2 ⟨rfl, hF, hT⟩
                  obtain ⟨ct2, cf2⟩ := hF.1.there
                  have HF2 := hide (hF.store true)
                  have HT := hide (hT.trans (hF.store true).2)
                  clear hF hT
                  go_wp2
                  go_roundg g2
                  case measure => omega
                  case rel => exact ⟨j + 1, by omega, by go_num, by rw [unhide HB1]; rfl, hide ⟨by rw [unhide HB1]; exact (unhide HF2).1.mark rfl rfl rfl, (unhide HT).keep _ _ _ (unhide HJ).2 (by decide)⟩⟩
                · obtain ⟨xt, hxt⟩ : ∃ b, x.there = b := ⟨_, rfl⟩
                  have ct := (unhide HJ).1.1.there.1
                  rw [hxt] at ct
                  have HXT := hide hxt
                  clear hxt
                  cases xt with
                  | true =>
                    have HE := hide ((unhide HJ).1.end (by have := unhide HBD2; omega))
                    go_wp2_with fail
                    refine (unhide HE).mono ?_
                    rintro e w2 ⟨rfl, hF, hT⟩
                    have HF := hide hF
                    have HT := hide hT
                    clear hF hT
                    go_wp2
                    go_roundg g2
                    case measure => omega
                    case rel => exact ⟨j + 1, by omega, by go_num, by rw [unhide HB1]; show _ = Value.bool (softS x).mark; unfold softS; rw [if_pos (unhide HXT)]; rfl, hide ⟨by rw [unhide HB1]; show FI _ _ _ _ _ _ _ _ (softS x); unfold softS; rw [if_pos (unhide HXT)]; exact (unhide HF).mark rfl rfl rfl, (unhide HT).keep _ _ _ (unhide HJ).2 (by decide)⟩⟩
                  | false =>
                    go_wp2
                    go_roundg g2
                    case measure => omega
                    case rel => exact ⟨j + 1, by omega, by go_num, by rw [unhide HB1]; show _ = Value.bool (softS x).mark; unfold softS; rw [if_neg (by rw [unhide HXT]; decide), unhide HXM], hide ⟨by rw [unhide HB1]; show FI _ _ _ _ _ _ _ _ (softS x); unfold softS; rw [if_neg (by rw [unhide HXT]; decide)]; exact (unhide HJ).1, (unhide HJ).2⟩⟩
                · cases xm with
                  | true =>
                    go_wp2
                    go_roundg g2
                    case measure => omega
                    case rel => exact ⟨j + 1, by omega, by go_num, by rw [unhide HB1]; show _ = Value.bool (hardS x).mark; unfold hardS; rw [if_pos (unhide HXM)]; rfl, hide ⟨by rw [unhide HB1]; show FI _ _ _ _ _ _ _ _ (hardS x); unfold hardS; rw [if_pos (unhide HXM)]; exact (unhide HJ).1.mark rfl rfl rfl, (unhide HJ).2⟩⟩
                  | false =>
                    have HE := hide ((unhide HJ).1.end (by have := unhide HBD2; omega))
                    go_wp2_with fail
                    refine (unhide HE).mono ?_
                    rintro e w2 ⟨rfl, hF, hT⟩
                    have HF := hide hF
                    have HT := hide hT
                    clear hF hT
                    go_wp2
                    go_roundg g2
                    case measure => omega
                    case rel => exact ⟨j + 1, by omega, by go_num, by rw [unhide HB1]; show _ = Value.bool (hardS x).mark; unfold hardS; rw [if_neg (by rw [unhide HXM]; decide)]; rfl, hide ⟨by rw [unhide HB1]; show FI _ _ _ _ _ _ _ _ (hardS x); unfold hardS; rw [if_neg (by rw [unhide HXM]; decide)]; exact (unhide HF).mark rfl rfl rfl, (unhide HT).keep _ _ _ (unhide HJ).2 (by decide)⟩⟩
theorem fields_any (v : Value) (l : List Pc) (ifs : List UInt8) (w : World) (M : Nat) (h : PRow w v l) (hi : ifs.length ≤ 100000) (hM : ∀ p ∈ l, p.text.length ≤ M) (hl : (l.length + 1) * (M + 1) ≤ 900000) :
    Calls Try.prog 11 #[v, .string (BA ifs)] w fun e w' => ∃ u, e = .returned u ∧ Below w.heap.size w w' ∧ FRow w' u (fieldsL ifs l) :=
  (fields_own v l ifs w M h hi hM hl).mono fun _ _ ⟨u, h1, h2, h3⟩ => ⟨u, h1, h2, h3.row⟩

end Go.Proofs.Ytpljphbaibncjaa

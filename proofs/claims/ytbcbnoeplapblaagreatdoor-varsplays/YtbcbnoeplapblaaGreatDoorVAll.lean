/-
  Package vars: All.
-/
import Derived.Test.YtbcbnoeplapblaaGreatDoorVRow
namespace Go.Proofs.YtbcbnoeplapblaaGreatDoor
open Go.RowKit Go.Maps Go.Sort

theorem und_vars : Tryz.prog.underlying 43 = some (.slice 61) := by kernel_rfl
theorem info_var : (Tryz.prog.info? 61).map (fun i => (i.zero, i.size, i.bytes)) = some (some vr0.val, 5, 40) := by kernel_rfl
/-- A row of texts is no row of variables. -/
theorem rows_ne {w : World} {v u : Value} {l : List (List UInt8)} {base n : Nat} {t : TypeId} {xs : List Value} (h : AOwn w v l) (hr : w.ownsRow base t 5 u n xs) (ht : t ≠ 9) {k : Nat} (hk : v.ownBlock = some k) : u.ownBlock ≠ some k := by
  rcases h with ⟨rfl, _⟩ | ⟨g, o, cap, cs, rfl, _, _, hg, _⟩
  · cases hk
  · injection hk with hk
    subst hk
    obtain ⟨_, ⟨rfl, _⟩ | ⟨g', cap', cur, rfl, _, hg', _⟩⟩ := hr
    · exact fun e => by cases e
    · intro e
      injection e with e
      have e : g' = g := e
      subst e
      rw [hg] at hg'
      injection hg' with hg'
      injection hg' with _ e2 _
      exact ht e2.symm
theorem MOwn.len {w : World} {m : Option Nat} {L : List Vr} (h : MOwn w m L) : (Builtin.len_ #[53] 3 #[.map m]).run Tryz.prog w = .ok (.int .i64 (L.length : Int)) w := by
  rcases h with ⟨rfl, rfl⟩ | ⟨r, rfl, ho⟩
  · exact Maps.len_nil und_map 3
  · have := ho.len und_map 3
    rwa [show Maps.size (datV L) = L.length by unfold datV Maps.size; simp] at this
/-- The names of a map, in order. -/
theorem keys_any (m : Option Nat) (L : List Vr) (w : World) (h : MOwn w m L) (hL : L.length ≤ 1000) :
    Calls Tryz.prog 35 #[.func (.func 52) #[] #[.pointer (some ⟨w.heap.size, 0, none⟩)]] (w.alloc (.cells #[.map m] 53)) fun e w' => ∃ v', e = .returned v' ∧ AOwn w' v' (L.map (·.name)) ∧ Below w.heap.size w w' := by
  have hr := h.rising
  have hal : Below w.heap.size w (w.alloc (.cells #[.map m] 53)) := (Below.refl _ w).alloc (Nat.le_refl _) _
  rcases h with ⟨rfl, rfl⟩ | ⟨r, rfl, ho⟩
  · refine (callsIn_wide.1 (Tryz.slices_Sorted_keys_nil_35_36 w)).mono ?_
    rintro e w' ⟨v, ss, rfl, rfl, hrow, _, hb⟩
    refine ⟨v, rfl, ?_, hal.trans (hb.mono (by simp))⟩
    have hrow : w'.ownsRow (w.alloc (.cells #[.map none] 53)).heap.size 9 1 v 0 [] := by simpa using hrow
    exact (AOwn.of_row (l := []) hrow rfl).1
  · have hsz : Maps.size (datV L) = L.length := by unfold datV Maps.size; simp
    refine (callsIn_wide.1 (Tryz.slices_Sorted_keys_35_36 r L.length (datV L) itself w ho (by rw [hsz]; unfold maxLen; omega) (by rw [hsz]; omega))).mono ?_
    rintro e w' ⟨v, ss, rfl, hp, hrow, _, hb⟩
    rw [keys_dat] at hp
    rw [sorted_keys hr hp] at hrow
    refine ⟨v, rfl, ?_, hal.trans (hb.mono (by simp))⟩
    exact (AOwn.of_row (l := L.map (·.name)) hrow (by rw [hp.length_eq])).1
set_option maxRecDepth 20000 in
set_option maxHeartbeats 8000000 in
theorem all_any (b : Nat) (X : Nat → Prop) (s : VSt) (w : World) (h : VAt w b X s) (hL : s.L.length ≤ 1000) :
    Calls Tryz.prog 15 #[.pointer (some ⟨b, 0, none⟩)] w fun e w' => ∃ v', e = .returned v' ∧ w'.ownsRow w.heap.size 61 5 v' s.L.length (flatV s.L) ∧ Below w.heap.size w w' := by
  obtain ⟨i0, hi, hz0, hz1, hz2⟩ := info_of info_var
  obtain ⟨u, m, hb, _, hm, _⟩ := h
  have c2 : w.cell? ⟨b, 2, none⟩ = some (.map m) := hb.cell 2 rfl
  have hlen := hm.len
  have HR := hide hm.rising
  have hbl := hb.lt
  obtain ⟨L, hLd⟩ : ∃ L, L = s.L := ⟨_, rfl⟩
  rw [← hLd] at hm hlen HR hL ⊢
  clear hLd
  obtain ⟨n, hn⟩ : ∃ n, n = L.length := ⟨_, rfl⟩
  have HN := hide hn
  rw [← hn] at hlen hL ⊢
  obtain ⟨w1, hmk, ho1, hg1⟩ := run_make_own (P := Tryz.prog) w w.heap.size 43 61 i0 _ 5 und_vars hi hz0 hz1 .i64 .i64 n (by rw [hz2]; omega) (by unfold maxLen; omega) (Nat.le_refl _)
  have hB1 : Below w.heap.size w w1 := below_of_grown hg1
  have HKS : Hid (Calls Tryz.prog 35 #[.func (.func 52) #[] #[.pointer (some ⟨w1.heap.size, 0, none⟩)]] (w1.alloc (.cells #[.map m] 53)) fun e w' => ∃ v', e = .returned v' ∧ AOwn w' v' (L.map (·.name)) ∧ Below w1.heap.size w1 w') := hide (keys_any m L w1 (hm.grown (grownS_of_below (S := fun _ => False) hB1) (fun _ _ e => e)) (by omega))
  have HK := hide (callsIn_wide.1 (Tryz.maps_Keys_36 m w1))
  have c2' : w1.cell? ⟨b, 2, none⟩ = some (.map m) := by rw [hB1.cell (p := ⟨b, 2, none⟩) hbl]; exact c2
  have HM := hide hm
  have HO1 := hide ho1
  have HB1 := hide hB1
  have HC2 := hide c2
  clear hb hm hn ho1 hB1 hg1
  go_enter Tryz.func15, Tryz.ntmps15
  go_wp2_with fail
  refine (unhide HK).mono ?_
  rintro e w2 ⟨rfl, rfl⟩
  go_wp2_with fail
  refine (unhide HKS).mono ?_
  rintro e w3 ⟨vk, rfl, hvk, hb3⟩
  obtain ⟨ak, ck, hvke, _, _⟩ := hvk.len
  rw [List.length_map, ← unhide HN] at hvke
  subst hvke
  have hB3 : Below w.heap.size w w3 := (unhide HB1).trans (hb3.mono (unhide HB1).size)
  have HI3 : Hid (w3.ownsRow w.heap.size 61 5 (.slice (some ⟨w.heap.size, 0, none⟩) 0 n) 0 (flatV (L.take 0)) ∧ Below w.heap.size w w3 ∧ AOwn w3 (.slice ak n ck) (L.map (·.name))) := hide ⟨own_grownS (unhide HO1) (grownS_of_below (S := fun _ => False) hb3) (fun _ _ e => e), hB3, hvk⟩
  clear hvk hb3 hB3 hmk hlen c2 c2' HK HKS HB1
  go_wp2_with fail
  go_loopw [3, 21] (fun ov i wr => ∃ k : Nat, i = .int .i64 k ∧ k ≤ n ∧ Hid (wr.ownsRow w.heap.size 61 5 ov k (flatV (L.take k)) ∧ Below w.heap.size w wr ∧ AOwn wr (.slice ak n ck) (L.map (·.name)))) (fun _ i _ => n - (intOf i).toNat)
  case atStart => exact ⟨0, rfl, Nat.zero_le _, HI3⟩
  case round =>
    obtain ⟨k, rfl, hk, HI⟩ := hrel
    clear HI3
    by_cases hlt : k < n
    · obtain ⟨x, hx⟩ : ∃ x, L[k]? = some x := ⟨_, List.getElem?_eq_getElem (by have := unhide HN; omega)⟩
      obtain ⟨ho, hB, hkeys⟩ := unhide HI
      have hxn : (L.map (·.name))[k]? = some x.name := by rw [List.getElem?_map, hx]; rfl
      have hga : ∃ g o, ak = some ⟨g, o, none⟩ := by
        rcases hkeys with ⟨h, h'⟩ | ⟨g, o, cap', cs, h, _⟩
        · rw [h'] at hxn; simp at hxn
        · injection h with h1; exact ⟨g, o, h1⟩
      obtain ⟨g, o, rfl⟩ := hga
      have ck0 := hkeys.cell hxn
      have c2 : wr.cell? ⟨b, 2, none⟩ = some (.map m) := by rw [hB.cell (p := ⟨b, 2, none⟩) hbl]; exact unhide HC2
      have hmr : MOwn wr m L := (unhide HM).grown (S := fun k => w.heap.size ≤ k) ⟨hB.os, hB.tape, hB.output, hB.size, fun j _ hj => hB.block j (Nat.lt_of_not_le hj)⟩ (fun j hj => Nat.not_le.2 ((unhide HM).lt hj))
      have HXN : Hid (x.name.length ≤ maxLen) := hide (by
        rcases unhide HM with ⟨_, h⟩ | ⟨r, _, hoo⟩
        · rw [h] at hx; simp at hx
        · obtain ⟨es, he, hke⟩ := hoo.keysOf
          unfold datV at he
          injection he with he
          obtain ⟨v, hv⟩ := hke (encV x) (by rw [← he]; exact List.mem_map.2 ⟨x, List.mem_of_getElem? hx, rfl⟩)
          obtain ⟨y, _, hy, hyl⟩ := Maps.keyOf_str Tryz.underlying9 hv
          unfold encV at hy
          injection hy with hy
          rw [hy]
          exact hyl)
      have hlk := hmr.look x.name (unhide HXN)
      rw [find_at (unhide HR) hx] at hlk
      unfold Vr.val at hlk
      have hlt1 : (k : Int) < (n : Int) := by omega
      have hk0 : (0 : Int) ≤ (k : Int) := by omega
      have hws := hB.size
      have HX := hide hx
      clear hkeys ho hB hmr hx hxn
      go_wp2_with (first
        | (at_builtin; refine wpList_append_own _ rfl (.tmp 25) (.tmp 32) 43 rfl w.heap.size 61 i0 _ 5 40 und_vars hi hz0 hz1 hz2 rfl (by decide) _ _ _ rfl (World.ownsRow.alloc (unhide HI).1 _) ⟨wr.heap.size, 0, none⟩ 1 1 [.string (BA x.name), .string (BA x.value), .bool x.set, .bool x.ex, .bool x.ro] rfl rfl five_cells five_val ?c3 ?c4 ?c5 ?_)
        | go_in)
      case c3 => unfold maxLen; omega
      case c4 => omega
      case c5 => simp; omega
      intro v' w4 hown' hgrow _
      have HO' := hide (show w4.ownsRow w.heap.size 61 5 v' (k + 1) (flatV (L.take (k + 1))) by rw [List.take_add_one, unhide HX]; show World.ownsRow _ _ _ _ _ _ (flatV (L.take k ++ [x])); rw [flatV_snoc]; exact hown')
      have HB' := hide (((unhide HI).2.1.alloc hws _).grown hgrow (by simp; omega) (fun j hj => (World.ownsRow.lt (unhide HI).1 j hj).1))
      have HK' := hide (((unhide HI).2.2.grown (grownS_of_below (S := fun _ => False) ((Below.refl _ wr).alloc (Nat.le_refl _) _)) (fun _ _ e => e)).grown (GrownS.of hgrow (S := fun j => u3.ownBlock = some j) (fun j e => e.symm)) (fun j hj => rows_ne (unhide HI).2.2 (unhide HI).1 (by decide) hj))
      clear hown' hgrow
      go_wp2
      go_roundw
      case rel => exact ⟨k + 1, by go_num, by omega, hide ⟨unhide HO', unhide HB', unhide HK'⟩⟩
      case measure => simp [intOf]; omega
    · have hkl : k = n := by omega
      have hlt1 : ¬ (k : Int) < (n : Int) := by omega
      have HK := hide hkl
      clear hkl
      go_wp2
      go_ret
      refine ⟨_, rfl, ?_, (unhide HI).2.1⟩
      have := (unhide HI).1
      rw [unhide HK, List.take_of_length_le (by rw [unhide HN]; exact Nat.le_refl _)] at this
      exact this

end Go.Proofs.YtbcbnoeplapblaaGreatDoor

/-
  The document's variables in memory; its Name, find.
-/
import Derived.Test.YtbcbnoeplapblaaGreatDoorVAll
import Derived.Test.YtbcbnoeplapblaaGreatDoorVKeepP
namespace Go.Proofs.YtbcbnoeplapblaaGreatDoor
open Go.RowKit Go.Maps

/-- A slice that is no longer than its room. -/
def RoomOk (v : Value) : Prop := ∀ a n c, v = .slice a n c → n ≤ c
/-- What the document has, at block b; its blocks are of Y. -/
def RAt (w0 w : World) (b : Nat) (Y : Nat → Prop) (s : VSt) : Prop := ∃ lv av, Blk w b 32 #[lv, .string (BA s.zero), av, .int .i64 s.st] ∧ VRow w lv s.L ∧ (∀ k, lv.ownBlock = some k → k ≠ b ∧ Y k ∧ k < w.heap.size) ∧ AIn w0 av s.args ∧ RoomOk av ∧ w0.heap.size ≤ b ∧ Y b ∧ Below w0.heap.size w0 w
theorem RAt.lt {w0 w : World} {b : Nat} {Y : Nat → Prop} {s : VSt} (h : RAt w0 w b Y s) : b < w.heap.size := by
  obtain ⟨_, _, hb, _⟩ := h
  exact hb.lt
theorem VRow.grownS {w w' : World} {v : Value} {L : List Vr} {S : Nat → Prop} (h : VRow w v L) (hg : GrownS w w' S) (hv : ∀ k, v.ownBlock = some k → k < w.heap.size → ¬ S k) : VRow w' v L := by
  obtain ⟨ad, cap, rfl, h2⟩ := h
  refine ⟨ad, cap, rfl, fun i x hi => ?_⟩
  obtain ⟨g, rfl, h4, c0, c1, c2, c3, c4⟩ := h2 i x hi
  have hk : w'.heap[g]? = w.heap[g]? := hg.block g h4 (hv g rfl h4)
  have hc : ∀ o, w'.cell? ⟨g, o, none⟩ = w.cell? ⟨g, o, none⟩ := fun o => by simp only [World.cell?, hk]
  exact ⟨g, rfl, Nat.lt_of_lt_of_le h4 hg.size, (hc _).trans c0, (hc _).trans c1, (hc _).trans c2, (hc _).trans c3, (hc _).trans c4⟩
theorem RAt.grown {w0 w w' : World} {b : Nat} {Y S : Nat → Prop} {s : VSt} (h : RAt w0 w b Y s) (hg : GrownS w w' S) (hd : ∀ k, Y k → k < w.heap.size → ¬ S k) (h0 : ∀ k, S k → w0.heap.size ≤ k) : RAt w0 w' b Y s := by
  obtain ⟨lv, av, hb, hr, hl, ha, hc, hs, hy, hB⟩ := h
  exact ⟨lv, av, hb.grownS hg (hd b hy hb.lt), hr.grownS hg (fun k hk => hd k (hl k hk).2.1), fun k hk => ⟨(hl k hk).1, (hl k hk).2.1, Nat.lt_of_lt_of_le (hl k hk).2.2 hg.size⟩, ha, hc, hs, hy, hB.trans (hg.below hB.size h0)⟩
theorem RAt.below {w0 w w' : World} {b : Nat} {Y : Nat → Prop} {s : VSt} (h : RAt w0 w b Y s) (hg : Below w.heap.size w w') : RAt w0 w' b Y s :=
  h.grown (grownS_of_below (S := fun _ => False) hg) (fun _ _ _ e => e) (fun _ e => e.elim)
theorem RAt.mono {w0 w : World} {b : Nat} {Y Z : Nat → Prop} {s : VSt} (h : RAt w0 w b Y s) (hYZ : ∀ k, Y k → Z k) : RAt w0 w b Z s := by
  obtain ⟨lv, av, hb, hr, hl, ha, hc, hs, hy, hB⟩ := h
  exact ⟨lv, av, hb, hr, fun k hk => ⟨(hl k hk).1, hYZ k (hl k hk).2.1, (hl k hk).2.2⟩, ha, hc, hs, hYZ b hy, hB⟩
theorem RAt.tight {w0 w : World} {b : Nat} {Y : Nat → Prop} {s : VSt} (h : RAt w0 w b Y s) : RAt w0 w b (fun k => Y k ∧ k < w.heap.size) s := by
  obtain ⟨lv, av, hb, hr, hl, ha, hc, hs, hy, hB⟩ := h
  exact ⟨lv, av, hb, hr, fun k hk => ⟨(hl k hk).1, ⟨(hl k hk).2.1, (hl k hk).2.2⟩, (hl k hk).2.2⟩, ha, hc, hs, ⟨hy, hb.lt⟩, hB⟩

set_option maxRecDepth 20000 in
set_option maxHeartbeats 1000000 in
theorem rname_any (l : List UInt8) (w : World) (hl : l.length ≤ 100000) :
    Calls Tryz.prog 48 #[.string (BA l)] w fun e w' => e = .returned (.bool (namL l)) ∧ w' = w := by
  have he := emp_BA l
  have HF := hide (rfront_any (BA l) w (by rw [BA_size]; exact hl))
  rw [BA_list] at HF
  cases hb : l.isEmpty with
  | true =>
    rw [hb] at he
    clear HF
    go_enter Tryz.func48, Tryz.ntmps48
    go_wp2
    go_ret
    exact ⟨ret_bool (by unfold namL; rw [hb]; rfl), rfl⟩
  | false =>
    rw [hb] at he
    obtain ⟨f, hf⟩ : ∃ f, f = frontN l := ⟨_, rfl⟩
    rw [← hf] at HF
    have HFF := hide hf
    have HBB := hide hb
    clear hf hb
    have hfl : f ≤ 100000 := by rw [unhide HFF]; have := front_le l; omega
    go_enter Tryz.func48, Tryz.ntmps48
    go_wp2_with fail
    refine (unhide HF).mono ?_
    rintro e w1 ⟨rfl, rfl⟩
    go_wp2
    go_ret
    refine ⟨ret_bool ?_, rfl⟩
    unfold namL
    rw [unhide HBB, ← unhide HFF]
    by_cases h : f = l.length
    · simp [h]
    · have : (f == l.length) = false := by simpa using h
      rw [this]
      simp
      omega

theorem find_hit {n : List UInt8} : ∀ {L : List Vr} {k : Nat} {x : Vr}, L[k]? = some x → x.name = n → (∀ j (y : Vr), j < k → L[j]? = some y → y.name ≠ n) → getL L n = x
  | [], _, _, h, _, _ => by simp at h
  | y :: L, 0, x, h, hx, _ => by
    simp at h
    subst h
    unfold getL
    rw [List.find?_cons, hx, beq_self_eq_true]
    rfl
  | y :: L, k + 1, x, h, hx, hno => by
    have hy : (y.name == n) = false := by rw [beq_eq_false_iff_ne]; exact hno 0 y (by omega) rfl
    have ih := find_hit (L := L) (k := k) (x := x) (by simpa using h) hx (fun j z hj hz => hno (j + 1) z (by omega) (by simpa using hz))
    unfold getL at ih ⊢
    rw [List.find?_cons, hy]
    exact ih
theorem find_not {n : List UInt8} : ∀ {L : List Vr}, (∀ (j : Nat) (y : Vr), L[j]? = some y → y.name ≠ n) → getL L n = vr0
  | [], _ => rfl
  | y :: L, hno => by
    have hy : (y.name == n) = false := by rw [beq_eq_false_iff_ne]; exact hno 0 y rfl
    have ih := find_not (L := L) (fun j z hz => hno (j + 1) z (by simpa using hz))
    unfold getL at ih ⊢
    rw [List.find?_cons, hy]
    exact ih

set_option maxRecDepth 20000 in
set_option maxHeartbeats 4000000 in
theorem rfind_any (w0 w : World) (b : Nat) (Y : Nat → Prop) (s : VSt) (n : List UInt8) (h : RAt w0 w b Y s) (hL : s.L.length ≤ 1000) :
    Calls Tryz.prog 34 #[.pointer (some ⟨b, 0, none⟩), .string (BA n)] w fun e w' => e = .returned (getL s.L n).val ∧ Below w.heap.size w w' := by
  obtain ⟨lv, av, hb, hrow, _⟩ := h
  obtain ⟨L, hLd⟩ : ∃ L, L = s.L := ⟨_, rfl⟩
  rw [← hLd] at hrow hL ⊢
  clear hLd
  obtain ⟨ad, cap, hlv, hc⟩ := hrow
  obtain ⟨N, hN⟩ : ∃ N, N = L.length := ⟨_, rfl⟩
  rw [← hN] at hlv hL
  subst hlv
  have HN := hide hN
  have hbl := hb.lt
  have c0 : w.cell? ⟨b, 0, none⟩ = some (.slice ad N cap) := hb.cell 0 rfl
  have HC := hide hc
  have HB := hide (show Below w.heap.size w (w.alloc (.cells #[.string ⟨#[]⟩, .string ⟨#[]⟩, .bool false, .bool false, .bool false] 62)) from (Below.refl _ w).alloc (Nat.le_refl _) _)
  have c0' := cell_alloc c0 (.cells #[.string ⟨#[]⟩, .string ⟨#[]⟩, .bool false, .bool false, .bool false] 62)
  clear hb hc hN c0
  go_enter Tryz.func34, Tryz.ntmps34
  go_wp2
  go_loop [5] (fun i => ∃ k : Nat, i = .int .i64 k ∧ k ≤ N ∧ Hid (∀ j (y : Vr), j < k → L[j]? = some y → y.name ≠ n)) (fun i => N - (intOf i).toNat)
  case atStart => exact ⟨0, rfl, Nat.zero_le _, hide (fun j y hj => absurd hj (by omega))⟩
  case round =>
    obtain ⟨k, rfl, hk, HI⟩ := hrel
    by_cases hlt : k < N
    · obtain ⟨x, hx⟩ : ∃ x, L[k]? = some x := ⟨_, List.getElem?_eq_getElem (by have := unhide HN; omega)⟩
      obtain ⟨g, rfl, hg, d0, d1, d2, d3, d4⟩ := unhide HC k x hx
      have hlt1 : (k : Int) < (N : Int) := by omega
      have hk0 : (0 : Int) ≤ (k : Int) := by omega
      have HX := hide hx
      have d0 := cell_alloc d0 (.cells #[.string ⟨#[]⟩, .string ⟨#[]⟩, .bool false, .bool false, .bool false] 62)
      have d1 := cell_alloc d1 (.cells #[.string ⟨#[]⟩, .string ⟨#[]⟩, .bool false, .bool false, .bool false] 62)
      have d2 := cell_alloc d2 (.cells #[.string ⟨#[]⟩, .string ⟨#[]⟩, .bool false, .bool false, .bool false] 62)
      have d3 := cell_alloc d3 (.cells #[.string ⟨#[]⟩, .string ⟨#[]⟩, .bool false, .bool false, .bool false] 62)
      have d4 := cell_alloc d4 (.cells #[.string ⟨#[]⟩, .string ⟨#[]⟩, .bool false, .bool false, .bool false] 62)
      clear hx
      by_cases hxn : x.name = n
      · have hq : ((BA x.name).toList == (BA n).toList) = true := by rw [hxn]; simp
        have HXN := hide hxn
        clear hxn
        go_wp2
        refine bodyPost_ret (results_cell_row (P := Tryz.prog) rfl _ _ w.heap.size 62 _ (0, 0) _ rfl (heap_alloc_new _ _) Tryz.underlying62 rfl (by kernel_rfl)) rfl ⟨by rw [find_hit (unhide HX) (unhide HXN) (unhide HI)]; rfl, (Below.refl _ w).alloc (Nat.le_refl _) _⟩
      · have hq : ((BA x.name).toList == (BA n).toList) = false := by rw [BA_toList, BA_toList]; simpa using hxn
        have HXN := hide hxn
        clear hxn
        go_wp2
        go_round
        case rel => exact ⟨k + 1, by go_num, by omega, hide (fun j y hj hy => by
          by_cases e : j = k
          · subst e
            rw [unhide HX] at hy
            injection hy with hy
            rw [← hy]
            exact unhide HXN
          · exact unhide HI j y (by omega) hy)⟩
        case measure => simp [intOf]; omega
    · have hkl : k = N := by omega
      have hlt1 : ¬ (k : Int) < (N : Int) := by omega
      have HK := hide hkl
      clear hkl
      have HZ := hide (show getL L n = vr0 from find_not (fun j y hy => unhide HI j y (by rw [unhide HK, unhide HN]; exact (List.getElem?_eq_some_iff.1 hy).1) hy))
      go_wp2
      refine bodyPost_ret (results_cell_row (P := Tryz.prog) rfl _ _ w.heap.size 62 _ (0, 0) _ rfl (heap_alloc_new _ _) Tryz.underlying62 rfl (by kernel_rfl)) rfl ⟨by rw [unhide HZ]; rfl, (Below.refl _ w).alloc (Nat.le_refl _) _⟩

end Go.Proofs.YtbcbnoeplapblaaGreatDoor

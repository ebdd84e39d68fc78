/-
  FdsEnds: what the law has of its own beside the state: the row of its sets, which grows.
-/
import Derived.Test.YtemologkibcdoaaGreatDoorFdEnd4
import Derived.Maps.AppendAt
namespace Go.Proofs.YtemologkibcdoaaGreatDoor
open Go.RowKit Go.Maps

/-- The row of the law's sets. -/
structure LRow (w wr : World) (f : Nat) (Z : Nat → Prop) (v : Value) (sb : List Nat) : Prop where
  own : wr.ownsRow 0 25 1 v sb.length (sb.map ptrV)
  out : ∀ g, v.ownBlock = some g → ¬ Z g ∧ g ≠ f ∧ (Bas.of w).tn g
def LS (w wr : World) (f x : Nat) (v : Value) (n : Nat) (sb : List Nat) : Prop := ∃ q Z, DoG wr f q Z 20 n (Bas.of w) x sb 9 ∧ LRow w wr f Z v sb
theorem ownsRow_kept {w w' : World} {e n : Nat} {v : Value} {xs : List Value} (h : w.ownsRow 0 e 1 v n xs) (hk : ∀ g, v.ownBlock = some g → g < w.heap.size → w'.heap[g]? = w.heap[g]?) : w'.ownsRow 0 e 1 v n xs := by
  obtain ⟨h0, h | ⟨g, cap, cur, rfl, h1, h2, h3⟩⟩ := h
  · exact ⟨h0, .inl h⟩
  · exact ⟨h0, .inr ⟨g, cap, cur, rfl, h1, (hk g rfl (Array.getElem?_eq_some_iff.1 h2).1).trans h2, h3⟩⟩
theorem LRow.grown {w wr w' : World} {f : Nat} {Z : Nat → Prop} {v : Value} {sb : List Nat} (R : LRow w wr f Z v sb) (hg : GrownS wr w' Z) : LRow w w' f Z v sb :=
  ⟨ownsRow_kept R.own (fun g h1 h2 => hg.block g h2 (R.out g h1).1), R.out⟩
theorem LRow.cell {w wr : World} {f : Nat} {Z : Nat → Prop} {v : Value} {sb : List Nat} (R : LRow w wr f Z v sb) {k b : Nat} (hb : sb[k]? = some b) : ∃ g cap, v = .slice (some ⟨g, 0, none⟩) sb.length cap ∧ wr.cell? ⟨g, k, none⟩ = some (.pointer (some ⟨b, 0, none⟩)) := by
  have hk := (List.getElem?_eq_some_iff.1 hb).1
  obtain ⟨h0, ⟨rfl, h⟩ | ⟨g, cap, cur, rfl, _, h2, h3, h4, h5, h6⟩⟩ := R.own
  · omega
  · refine ⟨g, cap, rfl, ?_⟩
    have hB : Blk wr g 25 cur := h2
    refine hB.cell k ?_
    have e : (cur.toList.take (sb.length * 1))[k]? = some (ptrV b) := by rw [h6, List.getElem?_map, hb]; rfl
    rw [List.getElem?_take, if_pos (by omega)] at e
    have e5 : cur[k]? = some (ptrV b) := by simpa using e
    exact e5
theorem LS.below {w wr w' : World} {f x n : Nat} {v : Value} {sb : List Nat} (S : LS w wr f x v n sb) (hb : Below wr.heap.size wr w') : LS w w' f x v n sb := by
  obtain ⟨q, Z, D, R⟩ := S
  exact ⟨q, Z, D.below hb, R.grown (grownS_of_below hb)⟩
theorem LS.env {w wr : World} {f x n : Nat} {v : Value} {sb : List Nat} (S : LS w wr f x v n sb) : EnvB wr (Bas.of w) := by
  obtain ⟨q, Z, ⟨A, H, L, F, _⟩, R⟩ := S
  exact F.mx.env
theorem DoG.apart {w w' : World} {f q nb n x m : Nat} {B : Bas} {Z S : Nat → Prop} {sb : List Nat} (D : DoG w f q Z nb n B x sb m) (hg : GrownS w w' S) (h1 : ∀ k, S k → ¬ Z k) (h2 : ∀ k, S k → k ≠ f) (h3 : ∀ k, S k → B.tn k) : DoG w' f q Z nb n B x sb m := by
  obtain ⟨A, H, L, F, K, I⟩ := D
  exact ⟨A, H, L, F.apart hg h1 h2 h3, K, I⟩
/-- The law begins. -/
theorem LS.start {w wr : World} {f q x s n : Nat} {Z : Nat → Prop} (D : DoG wr f q Z 20 n (Bas.of w) x [s] 9) : LS w (wr.alloc (.cells #[.pointer (some ⟨s, 0, none⟩)] 25)) f x (.slice (some ⟨wr.heap.size, 0, none⟩) 1 1) n [s] := by
  have hbel : Below wr.heap.size wr (wr.alloc (.cells #[.pointer (some ⟨s, 0, none⟩)] 25)) := (Below.refl _ _).alloc (Nat.le_refl _) _
  refine ⟨q, _, D.renew hbel, ⟨⟨rfl, .inr ⟨wr.heap.size, 1, _, rfl, Nat.zero_le _, heap_alloc_new wr _, Nat.le_refl _, by decide, rfl, rfl⟩⟩, fun g hg => ?_⟩⟩
  injection hg with hg
  subst hg
  obtain ⟨A, H, L, F, _⟩ := D
  have hf := F.mx.fx.blk.lt
  refine ⟨?_, by show wr.heap.size ≠ f; omega, F.mx.tn _ (F.mx.new _ (Nat.le_refl _))⟩
  rintro (h | h)
  · exact absurd h.2 (Nat.lt_irrefl _)
  · have : (wr.alloc (.cells #[.pointer (some ⟨s, 0, none⟩)] 25)).heap.size = wr.heap.size + 1 := by simp
    rw [this] at h
    exact absurd h (by show ¬ wr.heap.size + 1 ≤ wr.heap.size; omega)
theorem LS.do {w wr : World} {f x n k b : Nat} {v : Value} {sb : List Nat} (S : LS w wr f x v n sb) (hb : sb[k]? = some b) (hn : n ≤ 7000) (o : Op16) (ok : o.ok) (ht : o.text.length ≤ 500) : Calls Tryz.prog 10 #[.pointer (some ⟨b, 0, none⟩), .agg #[.int .i64 o.set, .int .i64 o.ask, .int .i64 o.fd, .int .i64 o.n, .string (BA o.text)]] wr fun e w' => (∃ u, e = .returned u) ∧ Hid (LS w w' f x v (n + 16) sb) := by
  obtain ⟨q, Z, D, R⟩ := S
  exact (ls_do D hb hn o ok ht).mono (fun e w' h => ⟨h.1, hide ⟨q, Z, (unhide h.2).1, R.grown (unhide h.2).2⟩⟩)
theorem LS.open {w wr : World} {f x n : Nat} {v : Value} {sb : List Nat} (S : LS w wr f x v n sb) : ∃ c : Nat, c ≤ 16 * sb.length ∧ Calls Tryz.prog 11 #[.pointer (some ⟨x, 0, none⟩)] wr fun e w' => e = .returned (.int .i64 (c : Int)) ∧ w' = wr := by
  obtain ⟨q, Z, D, R⟩ := S
  exact ls_open D
theorem und_sets : Tryz.prog.underlying 30 = some (.slice 25) := by kernel_rfl
/-- A set more: the row grows by it. -/
theorem LS.fork {w wr : World} {f x n k b : Nat} {v : Value} {sb : List Nat} (S : LS w wr f x v n sb) (hb : sb[k]? = some b) (hn : n ≤ 7000) (hsb : sb.length ≤ 1000) : Calls Tryz.prog 9 #[.pointer (some ⟨b, 0, none⟩)] wr fun e w' => e = .returned (.pointer (some ⟨wr.heap.size, 0, none⟩)) ∧ Hid (∀ ty, ∃ v' w3, (Builtin.append_ #[30, 30] ty #[v, .slice (some ⟨w'.heap.size, 0, none⟩) 1 1]).run Tryz.prog (w'.alloc (.cells #[.pointer (some ⟨wr.heap.size, 0, none⟩)] 25)) = .ok v' w3 ∧ Hid (LS w w3 f x v' (n + 16) (sb ++ [wr.heap.size]))) := by
  obtain ⟨q, Z, D, R⟩ := S
  refine (ls_fork D hb hn).mono (fun e w' h => ⟨h.1, hide (fun ty => ?_)⟩)
  obtain ⟨D', hg⟩ := unhide h.2
  have R' := R.grown hg
  obtain ⟨c, hc⟩ : ∃ c, c = wr.heap.size := ⟨_, rfl⟩
  rw [← hc] at D' ⊢
  obtain ⟨W, hW⟩ : ∃ W, W = w'.alloc (.cells #[.pointer (some ⟨c, 0, none⟩)] 25) := ⟨_, rfl⟩
  rw [← hW]
  have hbel : Below w'.heap.size w' W := by rw [hW]; exact (Below.refl _ _).alloc (Nat.le_refl _) _
  have D2 := D'.renew hbel
  have hsz : W.heap.size = w'.heap.size + 1 := by rw [hW]; simp
  have hgo : ∀ g, v.ownBlock = some g → g < w'.heap.size := fun g hg => by
    obtain ⟨_, ⟨rfl, _⟩ | ⟨g2, cap, cur, rfl, _, h2, _⟩⟩ := R'.own
    · cases hg
    · injection hg with hg
      rw [← hg]
      exact (Array.getElem?_eq_some_iff.1 h2).1
  have hz2 : ∀ g, v.ownBlock = some g → ¬ Zup w' W Z g := fun g hg h => by
    rcases h with h | h
    · exact (R'.out g hg).1 h.1
    · have := hgo g hg
      omega
  have hown : W.ownsRow 0 25 1 v sb.length (sb.map ptrV) := ownsRow_kept R'.own (fun g _ hg => hbel.block g hg)
  obtain ⟨i0, hi, hi0, hi1, hi2⟩ := info2 (t := 25) (z := some (.pointer none)) (a := 1) (c := 8) (by kernel_rfl)
  obtain ⟨v', w3, hr, o1, o2, _, o3⟩ := run_append_own_at (P := Tryz.prog) W 0 30 ty 25 i0 (.pointer none) 1 8 und_sets hi hi0 hi1 hi2 rfl (by decide) v sb.length (sb.map ptrV) hown ⟨w'.heap.size, 0, none⟩ 1 1 [.pointer (some ⟨c, 0, none⟩)] rfl (by rw [hW]; exact cell_one_new w' (.pointer (some ⟨c, 0, none⟩)) 25) (one_ptr _) (by unfold maxLen; omega) (by omega) (Nat.zero_le _)
  refine ⟨v', w3, hr, hide ?_⟩
  have o1' : w3.ownsRow 0 25 1 v' (sb ++ [c]).length ((sb ++ [c]).map ptrV) := by
    rw [List.length_append, List.length_singleton, List.map_append]
    exact o1
  have hnew : (Bas.of w).tn W.heap.size ∧ W.heap.size ≠ f := by
    obtain ⟨A, H, L, F, _⟩ := D2
    have := F.mx.fx.blk.lt
    exact ⟨F.mx.tn _ (F.mx.new _ (Nat.le_refl _)), by omega⟩
  rcases o3 with o3 | o3
  · refine ⟨q, Zup w' W Z, D2.apart (S := fun k => some k = v.ownBlock) (GrownS.of o2 (fun _ h => h)) (fun k hk => hz2 k hk.symm) (fun k hk => (R'.out k hk.symm).2.1) (fun k hk => (R'.out k hk.symm).2.2), o1', fun g hg => ?_⟩
    rw [o3] at hg
    exact ⟨hz2 g hg, (R'.out g hg).2⟩
  · have hlt : W.heap.size < w3.heap.size := by
      obtain ⟨_, ⟨rfl, _⟩ | ⟨g2, cap, cur, rfl, _, h2, _⟩⟩ := o1
      · cases o3
      · injection o3 with o3
        rw [← o3]
        exact (Array.getElem?_eq_some_iff.1 h2).1
    have hb2 : Below W.heap.size W (W.alloc (.cells #[] 0)) := (Below.refl _ _).alloc (Nat.le_refl _) _
    have hs2 : (W.alloc (.cells #[] 0)).heap.size = W.heap.size + 1 := by simp
    have hg2 : GrownS (W.alloc (.cells #[] 0)) w3 (fun k => some k = v.ownBlock ∨ k = W.heap.size) := by
      have hgr := GrownS.of (S := fun k => some k = v.ownBlock) o2 (fun _ h => h)
      refine ⟨hgr.os, hgr.tape, hgr.output, by omega, fun k hk hn => ?_⟩
      have hk2 : k < W.heap.size := by
        have : k ≠ W.heap.size := fun e => hn (.inr e)
        omega
      rw [hgr.block k hk2 (fun e => hn (.inl e)), heap_alloc_old W _ hk2]
    have hno : ∀ k, (some k = v.ownBlock ∨ k = W.heap.size) → ¬ Zup W (W.alloc (.cells #[] 0)) (Zup w' W Z) k := fun k hk h => by
      rcases hk with hk | rfl
      · rcases h with h | h
        · exact hz2 k hk.symm h.1
        · have := hgo k hk.symm
          omega
      · rcases h with h | h
        · exact absurd h.2 (Nat.lt_irrefl _)
        · omega
    refine ⟨q, _, (D2.renew hb2).apart hg2 hno (fun k hk => ?_) (fun k hk => ?_), o1', fun g hg => ?_⟩
    · rcases hk with hk | rfl
      · exact (R'.out k hk.symm).2.1
      · exact hnew.2
    · rcases hk with hk | rfl
      · exact (R'.out k hk.symm).2.2
      · exact hnew.1
    · rw [o3] at hg
      injection hg with hg
      subst hg
      exact ⟨hno _ (.inr rfl), hnew.2, hnew.1⟩

end Go.Proofs.YtemologkibcdoaaGreatDoor

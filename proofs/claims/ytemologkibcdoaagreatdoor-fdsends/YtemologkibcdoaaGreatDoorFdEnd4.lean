/-
  FdsEnds: the names are taken away, one by one: then the tree is as at the start.
-/
import Derived.Test.YtemologkibcdoaaGreatDoorFdEnd3
namespace Go.Proofs.YtemologkibcdoaaGreatDoor
open Go.RowKit Go.Maps

theorem drop_first {y : Nm} {L : List Nm} (hs : Srt (y :: L)) (hd : ∀ z ∈ (y :: L), z.dir = 1) : dropL (y :: L) 1 y.name = L := by
  unfold dropL
  have hy : y.at 1 y.name = true := by simp [Nm.at, hd y (List.mem_cons_self ..)]
  rw [List.filter_cons_of_neg (by simp [hy])]
  refine List.filter_eq_self.2 (fun z hz => ?_)
  have h1 := (List.pairwise_cons.1 hs).1 z hz
  have h2 := ltM_ne h1
  have h3 : z.at 1 y.name = false := by
    cases e : z.at 1 y.name with
    | false => rfl
    | true =>
      unfold Nm.at at e
      rw [Bool.and_eq_true, decide_eq_true_eq, decide_eq_true_eq] at e
      exact absurd ⟨(hd y (List.mem_cons_self ..)).trans e.1.symm, e.2.symm⟩ h2
  rw [h3]
  rfl
theorem in_all : ∀ {L : List Nm}, (∀ y ∈ L, y.dir = 1) → inL L 1 = L.map (·.name)
  | [], _ => rfl
  | y :: L, h => by
    unfold inL
    rw [List.filter_cons_of_pos (by simpa using h y (List.mem_cons_self ..)), List.map_cons, List.map_cons]
    have := in_all (fun z hz => h z (List.mem_cons_of_mem _ hz))
    unfold inL at this
    rw [this]
theorem DoT.below {w w' : World} {f q nb n m : Nat} {B : Bas} {Y : Nat → Prop} {l : List Nm} (D : DoT w f q Y nb n B m l) (hb : Below w.heap.size w w') : DoT w' f q Y nb n B m l := by
  obtain ⟨s, F, E, h⟩ := D
  exact ⟨s, F.below hb, E, h⟩
theorem DoT.renew {w w' : World} {f q nb n m : Nat} {B : Bas} {Y : Nat → Prop} {l : List Nm} (D : DoT w f q Y nb n B m l) (hb : Below w.heap.size w w') : DoT w' f q (fun k => Upto w Y k ∨ w'.heap.size ≤ k) nb n B m l := by
  obtain ⟨s, F, E, h⟩ := D
  exact ⟨s, F.renew hb, E, h⟩
theorem DoT.len {w : World} {f q nb n m : Nat} {B : Bas} {Y : Nat → Prop} {l : List Nm} (D : DoT w f q Y nb n B m l) : l.length ≤ n ∧ ∀ y ∈ l, y.name.length ≤ 32 := by
  obtain ⟨s, F, E, rfl⟩ := D
  exact ⟨F.nd.ok.len, fun y hy => (F.nd.ok.nm y hy).len⟩
theorem ls_names {w : World} {f q nb n m : Nat} {B : Bas} {Y : Nat → Prop} {l : List Nm} (D : DoT w f q Y nb n B m l) (hn : n ≤ 100000) : Calls Tryz.prog 14 #[.pointer (some ⟨f, 0, none⟩), .int .i64 1] w fun e w' => ∃ v, e = .returned (.tuple #[v, .int .i64 0]) ∧ Hid (TRow w' v (l.map (·.name)) ∧ (∀ k, v.ownBlock = some k → w.heap.size ≤ k) ∧ Below w.heap.size w w') := by
  obtain ⟨s, F, E, rfl⟩ := D
  have := list_any F hn 1 (by decide)
  have e0 : listE s 1 = 0 := by
    unfold listE kdI
    rw [E.root]
    rfl
  rw [e0, in_all E.dir] at this
  exact this
theorem ls_unlink {w : World} {f q nb n m : Nat} {B : Bas} {Y : Nat → Prop} {l : List Nm} {y : Nm} (D : DoT w f q Y nb n B m (y :: l)) (hn : n ≤ 10000) : Calls Tryz.prog 15 #[.pointer (some ⟨f, 0, none⟩), .int .i64 1, .string (BA y.name)] w fun e w' => e = .returned (.int .i64 0) ∧ Hid (DoT w' f q Y nb (n + 1) B m l ∧ GrownS w w' Y) := by
  obtain ⟨s, F, E, hL⟩ := D
  have hy : y ∈ s.L := by rw [hL]; exact List.mem_cons_self ..
  obtain ⟨e1, e2, e3, e4⟩ := es_unlink E F.nd.ok hy
  have hl := (F.nd.ok.nm y hy).len
  have := unlink_any F.rebased hn 1 y.name (by decide) (by omega)
  rw [e1, e2] at this
  refine this.mono (fun e w' h => ⟨h.1, hide ?_⟩)
  obtain ⟨G, hg⟩ := F.back (unhide h.2)
  refine ⟨⟨_, G, e3, ?_⟩, hg⟩
  rw [e4, hL]
  exact drop_first (by rw [← hL]; exact F.nd.ok.inv.srt) (by rw [← hL]; exact E.dir)
/-- What a tree of so many nodes and blocks has free at the start. -/
def fr0 (m nb : Nat) : Value := .tuple #[.int .i64 (freeT (rootS m).T : Int), .int .i64 ((nb - usedT (rootS m).T : Nat) : Int)]
theorem ls_free {w : World} {f q nb n m : Nat} {B : Bas} {Y : Nat → Prop} (h1 : 1 ≤ m) (D : DoT w f q Y nb n B m []) : Calls Tryz.prog 7 #[.pointer (some ⟨f, 0, none⟩)] w fun e w' => e = .returned (fr0 m nb) ∧ w' = w := by
  obtain ⟨s, F, E, hL⟩ := D
  have e := es_alone h1 E F.nd.ok hL
  have := ffree_any F
  rw [e] at this
  exact this
theorem ls_start {w : World} {f q nb n x m : Nat} {B : Bas} {Z : Nat → Prop} {sb : List Nat} {H : Hp} {L : Fay} (F : FH w f q Z (nwSt (A0 (rootS m))) nb n B x sb H L) (h1 : 1 ≤ m) : DoG w f q Z nb (n + 1) B x sb m ∧ Calls Tryz.prog 7 #[.pointer (some ⟨f, 0, none⟩)] w fun e w' => e = .returned (fr0 m nb) ∧ w' = w := by
  refine ⟨⟨_, H, L, F.mono (Nat.le_succ n), ok_nwSt (ok_0 _ (n + 1)), ⟨?_, fun j x h => by simp [nwSt, A0] at h⟩⟩, ffree_any F.mx.fx⟩
  have e : usA (nwSt (A0 (rootS m))) = fun _ => 0 := funext fun i => rfl
  rw [e]
  exact es_root m h1

end Go.Proofs.YtemologkibcdoaaGreatDoor

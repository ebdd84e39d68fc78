/-
  Directories (stage 13): what the calls make of names and kinds, and that they keep to what names keep to.
  Directories (stage 13): Rename; a new tree; what is above a directory.
-/
import Derived.Test.YtemologkibcdoaaGreatDoorM12

/- Directories (stage 13): what the calls make of names and kinds, and that they keep to what names keep to. -/
namespace Go.Proofs.YtemologkibcdoaaGreatDoor
open Go.RowKit Go.Maps

def nmI (T : TB) (i : Int) : Nat := namesOf (ndAt T i)
def kdI (T : TB) (i : Int) : Nat := kindOf (ndAt T i)
theorem set_nd {T : TB} {i : Int} {x : Nd} (h : ndAt T i = some x) (o : Option Nd) (k : Int) : ndAt (T.set (plc i) o) k = if k = i then o else ndAt T k := by
  obtain ⟨j, rfl, hj, hl⟩ := ndAt_some h
  rw [plc_of, ndAt_set hl]
/-- Names stay, and kinds of what has a name. -/
def Quiet (T T' : TB) : Prop := (∀ k, nmI T' k = nmI T k) ∧ ∀ k, 1 ≤ nmI T k → kdI T' k = kdI T k
theorem Quiet.refl (T : TB) : Quiet T T := ⟨fun _ => rfl, fun _ _ => rfl⟩
theorem quiet_set {T : TB} {i : Int} {x : Nd} (h : ndAt T i = some x) {o : Option Nd} (h1 : namesOf o = x.names) (h2 : 1 ≤ x.names → kindOf o = x.kind) : Quiet T (T.set (plc i) o) := by
  refine ⟨fun k => ?_, fun k hk => ?_⟩
  · unfold nmI
    rw [set_nd h]
    split
    · rename_i e; rw [e, h]; exact h1
    · rfl
  · unfold kdI
    rw [set_nd h]
    split
    · rename_i e
      unfold nmI at hk
      rw [e, h] at hk ⊢
      exact h2 hk
    · rfl
theorem quiet_hold (T : TB) (i : Int) : Quiet T (holdT T i) := by
  unfold holdT
  cases h : ndAt T i with
  | none => exact Quiet.refl _
  | some x => exact quiet_set h rfl (fun _ => rfl)
theorem quiet_loo (T : TB) (i : Int) : Quiet T (looT T i) := by
  unfold looT
  cases h : ndAt T i with
  | none => exact Quiet.refl _
  | some x =>
    dsimp only
    split
    · exact Quiet.refl _
    · refine quiet_set h ?_ (fun h1 => ?_)
      · unfold leftN
        split
        · rename_i e; exact e.1.symm
        · rfl
      · unfold leftN
        rw [if_neg (fun e => by have : x.names = 0 := e.1; omega)]
        rfl
theorem quiet_cut (T : TB) (i n : Int) : Quiet T (cutT T i n) := by
  unfold cutT
  cases h : ndAt T i with
  | none => exact Quiet.refl _
  | some x =>
    dsimp only
    split
    · exact Quiet.refl _
    · exact quiet_set h rfl (fun _ => rfl)
theorem wr_all {T T' : TB} {free : Nat} {i a N E : Int} {d : List UInt8} (h : WrSp T free i a d N E T') : ∀ k, nmI T' k = nmI T k ∧ kdI T' k = kdI T k := by
  intro k
  cases h with
  | none => exact ⟨rfl, rfl⟩
  | arg => exact ⟨rfl, rfl⟩
  | empty => exact ⟨rfl, rfl⟩
  | big => exact ⟨rfl, rfl⟩
  | space => exact ⟨rfl, rfl⟩
  | done x at' n hx =>
    unfold nmI kdI
    rw [set_nd hx]
    split
    · rename_i e; rw [e, hx]; exact ⟨rfl, rfl⟩
    · exact ⟨rfl, rfl⟩
theorem tie_all {T : TB} {i : Int} {x : Nd} (h : ndAt T i = some x) (k : Int) : nmI (tieT T i) k = nmI T k + (if k = i then 1 else 0) ∧ kdI (tieT T i) k = kdI T k := by
  have e : tieT T i = T.set (plc i) (some (tieN x)) := by unfold tieT; rw [h]
  unfold nmI kdI
  rw [e, set_nd h]
  split
  · rename_i hk; rw [hk, h]; exact ⟨rfl, rfl⟩
  · exact ⟨rfl, rfl⟩
theorem unt_all {T : TB} {i : Int} (h : 1 ≤ nmI T i) (k : Int) : nmI (untT T i) k = nmI T k - (if k = i then 1 else 0) ∧ (1 ≤ nmI (untT T i) k → kdI (untT T i) k = kdI T k) := by
  unfold nmI at h
  cases hx : ndAt T i with
  | none => rw [hx] at h; exact absurd h (by simp [namesOf])
  | some x =>
    rw [hx] at h
    have h : 1 ≤ x.names := h
    have e : untT T i = T.set (plc i) (leftN (untN x)) := by unfold untT; rw [hx]; dsimp only; rw [if_neg (by omega)]
    have e1 : namesOf (leftN (untN x)) = x.names - 1 := by
      unfold leftN
      split
      · rename_i hh; exact hh.1.symm
      · rfl
    unfold nmI kdI
    rw [e, set_nd hx]
    split
    · rename_i hk
      rw [hk, hx, e1]
      refine ⟨rfl, fun h1 => ?_⟩
      unfold leftN
      rw [if_neg (fun hh => by have : x.names - 1 = 0 := hh.1; omega)]
      rfl
    · exact ⟨rfl, fun _ => rfl⟩
theorem make_all {T : TB} {kind : Int} (h : makeE T kind = 0) : ndAt T (makeN T kind) = none ∧ 1 ≤ makeN T kind ∧ ∀ k, ndAt (makeT T kind) k = if k = makeN T kind then some (nd0 kind.toNat) else ndAt T k := by
  unfold makeE at h
  by_cases h1 : kindOk kind = true
  · rw [if_pos h1] at h
    by_cases h2 : frAt T < T.length
    · have e1 : makeN T kind = (frAt T : Int) + 1 := by unfold makeN; rw [h1]; simp [h2]
      have e2 : makeT T kind = T.set (frAt T) (some (nd0 kind.toNat)) := by unfold makeT; rw [h1]; simp [h2]
      have hf : ∃ o, T[frAt T]? = some o ∧ o.isNone = true := ⟨_, List.getElem?_eq_getElem h2, List.findIdx_getElem (w := h2)⟩
      obtain ⟨o, ho, ho2⟩ := hf
      cases o with
      | some x => cases ho2
      | none =>
        rw [e1, e2]
        exact ⟨ndAt_of ho, by omega, fun k => ndAt_set h2 k⟩
    · rw [if_neg h2] at h
      exact absurd h (by decide)
  · rw [if_neg h1] at h
    exact absurd h (by decide)
/-- A node that is made, tied and written to. -/
theorem made_all {T T1 T2 : TB} {kind N E : Int} {free : Nat} {d : List UInt8} (h : makeE T kind = 0) (h1 : T1 = tieT (makeT T kind) (makeN T kind)) (h2 : WrSp T1 free (makeN T kind) 0 d N E T2) : nmI T (makeN T kind) = 0 ∧ (∀ k, nmI T2 k = nmI T k + if k = makeN T kind then 1 else 0) ∧ (∀ k, kdI T2 k = if k = makeN T kind then kind.toNat else kdI T k) := by
  obtain ⟨a1, a2, a3⟩ := make_all h
  have a4 : ndAt (makeT T kind) (makeN T kind) = some (nd0 kind.toNat) := by rw [a3, if_pos rfl]
  have a0 : nmI T (makeN T kind) = 0 := by unfold nmI; rw [a1]; rfl
  refine ⟨a0, fun k => ?_, fun k => ?_⟩
  · rw [(wr_all h2 k).1, h1, (tie_all a4 k).1]
    unfold nmI
    rw [a3]
    split
    · rename_i e; rw [e, a1]; rfl
    · rfl
  · rw [(wr_all h2 k).2, h1, (tie_all a4 k).2]
    unfold kdI
    rw [a3]
    split
    · rfl
    · rfl
theorem made_space {T T1 T2 : TB} {kind N E : Int} {free : Nat} {d : List UInt8} (h : makeE T kind = 0) (h1 : T1 = tieT (makeT T kind) (makeN T kind)) (h2 : WrSp T1 free (makeN T kind) 0 d N E T2) : Quiet T (untT T2 (makeN T kind)) := by
  obtain ⟨b0, b1, b2⟩ := made_all h h1 h2
  have hu := unt_all (T := T2) (i := makeN T kind) (by rw [b1, if_pos rfl]; omega)
  refine ⟨fun k => ?_, fun k hk => ?_⟩
  · rw [(hu k).1, b1]
    split <;> omega
  · have e : nmI (untT T2 (makeN T kind)) k = nmI T k := by rw [(hu k).1, b1]; split <;> omega
    rw [(hu k).2 (by omega), b2, if_neg (fun e => by rw [e, b0] at hk; omega)]

def NInv (s : NS) : Prop := NV (nmI s.T) (kdI s.T) s.L s.par
theorem NInv.quiet {s : NS} (H : NInv s) {T' : TB} (h : Quiet s.T T') : NInv { s with T := T' } := NV.same H h.1 h.2
theorem NInv.there {s : NS} (H : NInv s) {x : Nm} (hx : x ∈ s.L) : 1 ≤ x.node := by
  have h1 := NV.node1 H.names hx
  unfold nmI at h1
  cases h : ndAt s.T x.node with
  | none => rw [h] at h1; exact absurd h1 (by simp [namesOf])
  | some y =>
    obtain ⟨k, e, _⟩ := ndAt_some h
    omega
theorem NInv.find0 {s : NS} (H : NInv s) {d : Int} {n : List UInt8} (h : findN s d n = 0) : ∀ y ∈ s.L, ¬ (y.dir = d ∧ y.name = n) := by
  rintro y hy ⟨rfl, rfl⟩
  have h1 := H.there hy
  rw [find_mem H.srt hy] at h
  omega
theorem NInv.find_pos {s : NS} (H : NInv s) (d : Int) (n : List UInt8) : 0 ≤ findN s d n := by
  by_cases h : findN s d n = 0
  · omega
  · obtain ⟨x, hx, _, _, e⟩ := find_some h
    have := H.there hx
    omega
theorem place_dir {s : NS} {dir : Int} {p : List UInt8} (h : (placeN s dir p).2.2 = 0) : kdI s.T (placeN s dir p).1 = 2 := by
  unfold placeN at h ⊢
  by_cases h1 : isD s dir = false
  · rw [if_pos h1] at h; cases h
  · rw [if_neg h1] at h ⊢
    by_cases h2 : p = []
    · rw [if_pos h2] at h; cases h
    · rw [if_neg h2] at h ⊢
      by_cases h3 : lastN (stripN p) = [] ∨ lastN (stripN p) = [46] ∨ lastN (stripN p) = [46, 46]
      · rw [if_pos h3] at h; cases h
      · rw [if_neg h3] at h ⊢
        by_cases h4 : 256 < p.length ∨ 32 < (lastN (stripN p)).length
        · rw [if_pos h4] at h; cases h
        · rw [if_neg h4] at h ⊢
          by_cases h5 : aheadN (stripN p) = []
          · rw [if_pos h5]
            have h6 : isD s dir = true := by simpa using h1
            exact of_decide_eq_true h6
          · rw [if_neg h5] at h ⊢
            dsimp only at h ⊢
            by_cases h6 : (walkN s dir (aheadN (stripN p)) true).2 = 0 ∧ isD s (walkN s dir (aheadN (stripN p)) true).1 = false
            · rw [if_pos h6] at h; cases h
            · rw [if_neg h6] at h
              have h7 : isD s (walkN s dir (aheadN (stripN p)) true).1 = true := by
                cases h8 : isD s (walkN s dir (aheadN (stripN p)) true).1 with
                | true => rfl
                | false => exact absurd ⟨h, h8⟩ h6
              exact of_decide_eq_true h7
theorem room_all {s : NS} (H : NInv s) {dir : Int} {p : List UInt8} (h : (roomN s dir p).2.2 = 0) : kdI s.T (roomN s dir p).1 = 2 ∧ 1 ≤ nmI s.T (roomN s dir p).1 ∧ ∀ y ∈ s.L, ¬ (y.dir = (roomN s dir p).1 ∧ y.name = (roomN s dir p).2.1) := by
  unfold roomN at h ⊢
  by_cases h1 : (placeN s dir p).2.2 ≠ 0
  · rw [if_pos h1] at h; exact absurd h h1
  · rw [if_neg h1] at h ⊢
    by_cases h2 : 0 < findN s (placeN s dir p).1 (placeN s dir p).2.1
    · rw [if_pos h2] at h; cases h
    · rw [if_neg h2] at h ⊢
      by_cases h3 : namesOf (ndAt s.T (placeN s dir p).1) = 0
      · rw [if_pos h3] at h; cases h
      · rw [if_neg h3]
        have h4 := H.find_pos (placeN s dir p).1 (placeN s dir p).2.1
        exact ⟨place_dir (by simpa using h1), by unfold nmI; omega, H.find0 (by omega)⟩
theorem keep_made {s s' : NS} (H : NInv s) {nb : Nat} {dir kind N E : Int} {p d : List UInt8} (h : MadeSp s nb dir p kind d N E s') : NInv s' := by
  cases h with
  | bad => exact H
  | nodes => exact H
  | space N E T1 T2 h1 h2 h3 h4 => exact H.quiet (made_space h2 h3 h4)
  | done N _ T1 T2 h1 h2 h3 h4 =>
    obtain ⟨b0, b1, b2⟩ := made_all h2 h3 h4
    obtain ⟨r1, r2, r3⟩ := room_all H h1
    refine NV.add H r1 r2 r3 b1 (fun k hk => by rw [b2, if_neg (fun e => by rw [e, b0] at hk; omega)]) (fun e => ?_) (fun _ => b0) (fun k hk => if_neg hk) (fun _ => if_pos rfl)
    have := NV.nm1 H
    rw [e] at b0
    omega
theorem keep_link {s : NS} (H : NInv s) {dir : Int} {p q : List UInt8} (ht : linkE s dir p q = 0 → ∃ x, ndAt s.T (walkN s dir p false).1 = some x) : NInv (linkS s dir p q) := by
  unfold linkS
  by_cases h : linkE s dir p q = 0
  · rw [if_pos h]
    obtain ⟨x, hx⟩ := ht h
    unfold linkE at h
    by_cases h1 : (walkN s dir p false).2 ≠ 0
    · rw [if_pos h1] at h; exact absurd h h1
    · rw [if_neg h1] at h
      by_cases h2 : isD s (walkN s dir p false).1 = true
      · rw [if_pos h2] at h; cases h
      · rw [if_neg h2] at h
        obtain ⟨r1, r2, r3⟩ := room_all H h
        have hk : kdI s.T (walkN s dir p false).1 ≠ 2 := fun e => h2 (by unfold isD kd; exact decide_eq_true e)
        refine NV.add H r1 r2 r3 (fun k => (tie_all hx k).1) (fun k _ => (tie_all hx k).2) (fun e => hk (by rw [e]; exact H.root)) (fun e => absurd ((tie_all hx _).2.symm.trans e) hk) (fun _ _ => rfl) (fun e => absurd ((tie_all hx _).2.symm.trans e) hk)
  · rw [if_neg h]
    exact H
theorem in_nil {s : NS} {d : Int} (h : inN s d = []) : ∀ y ∈ s.L, y.dir ≠ d := by
  intro y hy e
  unfold inN at h
  rw [List.map_eq_nil_iff, List.filter_eq_nil_iff] at h
  exact h y hy (by simpa using e)
theorem keep_gone {s : NS} (H : NInv s) {d : Int} {n : List UInt8} (h : findN s d n ≠ 0) (he : kdI s.T (findN s d n) = 2 → inN s (findN s d n) = []) : NInv (goneS s d n) := by
  obtain ⟨x, hx, rfl, rfl, e⟩ := find_some h
  rw [← e] at he
  unfold goneS
  rw [← e]
  have h1 : 1 ≤ nmI s.T x.node := NV.node1 H.names hx
  exact (NV.gone H hx (fun k => (unt_all h1 k).1) (fun k hk => (unt_all h1 k).2 hk) (fun hd => in_nil (he hd))).forg x.node
theorem keep_unlink {s : NS} (H : NInv s) (dir : Int) (p : List UInt8) : NInv (unlinkS s dir p) := by
  unfold unlinkS
  by_cases h : unlinkE s dir p = 0
  · rw [if_pos h]
    unfold unlinkE at h
    by_cases h1 : (placeN s dir p).2.2 ≠ 0
    · rw [if_pos h1] at h; exact absurd h h1
    · rw [if_neg h1] at h
      by_cases h2 : findN s (placeN s dir p).1 (placeN s dir p).2.1 = 0
      · rw [if_pos h2] at h; cases h
      · rw [if_neg h2] at h
        by_cases h3 : isD s (findN s (placeN s dir p).1 (placeN s dir p).2.1) = true
        · rw [if_pos h3] at h; cases h
        · exact keep_gone H h2 (fun e => absurd (by unfold isD kd; exact decide_eq_true e) h3)
  · rw [if_neg h]
    exact H
theorem keep_rmdir {s : NS} (H : NInv s) (dir : Int) (p : List UInt8) : NInv (rmdirS s dir p) := by
  unfold rmdirS
  by_cases h : rmdirE s dir p = 0
  · rw [if_pos h]
    unfold rmdirE at h
    by_cases h1 : (placeN s dir p).2.2 ≠ 0
    · rw [if_pos h1] at h; exact absurd h h1
    · rw [if_neg h1] at h
      by_cases h2 : findN s (placeN s dir p).1 (placeN s dir p).2.1 = 0
      · rw [if_pos h2] at h; cases h
      · rw [if_neg h2] at h
        by_cases h3 : isD s (findN s (placeN s dir p).1 (placeN s dir p).2.1) = false
        · rw [if_pos h3] at h; cases h
        · rw [if_neg h3] at h
          by_cases h4 : inN s (findN s (placeN s dir p).1 (placeN s dir p).2.1) ≠ []
          · rw [if_pos h4] at h; cases h
          · exact keep_gone H h2 (fun _ => by simpa using h4)
  · rw [if_neg h]
    exact H

end Go.Proofs.YtemologkibcdoaaGreatDoor

/- Directories (stage 13): Rename; a new tree; what is above a directory. -/
namespace Go.Proofs.YtemologkibcdoaaGreatDoor
open Go.RowKit Go.Maps

open Classical in
/-- b is i, or stands below it. -/
noncomputable def belP (s : NS) (b i : Int) : Bool := decide (∃ m, iterP s.par m b = i)
open Classical in
theorem bel_iff {s : NS} {b i : Int} : belP s b i = true ↔ ∃ m, iterP s.par m b = i := by unfold belP; rw [decide_eq_true_iff]
/-- Rename of the name at A to that at B; they lead to i and to k. -/
noncomputable def renE (s : NS) (A B : Int × List UInt8 × Int) (i k : Int) : Int :=
  if A.2.2 ≠ 0 then A.2.2 else if B.2.2 ≠ 0 then B.2.2 else if i = 0 ∨ namesOf (ndAt s.T B.1) = 0 then 23
  else if i = k then 0 else if isD s i = true ∧ belP s B.1 i = true then 35
  else if 0 < k then (if isD s i = true ∧ isD s k = false then 25 else if isD s i = false ∧ isD s k = true then 24 else if inN s k ≠ [] then 26 else 0) else 0
def renT (s : NS) (A B : Int × List UInt8 × Int) (i : Int) : NS := ⟨s.T, putL (dropL s.L A.1 A.2.1) ⟨B.1, B.2.1, i⟩, parU s.par i B.1⟩
noncomputable def renS (s : NS) (A B : Int × List UInt8 × Int) (i k : Int) : NS :=
  if renE s A B i k = 0 ∧ i ≠ k then (if 0 < k then renT (goneS s B.1 B.2.1) A B i else renT s A B i) else s
theorem ren_ok {s : NS} {A B : Int × List UInt8 × Int} {i k : Int} (h : renE s A B i k = 0) (hik : i ≠ k) : A.2.2 = 0 ∧ B.2.2 = 0 ∧ i ≠ 0 ∧ namesOf (ndAt s.T B.1) ≠ 0 ∧ (isD s i = true → ∀ m, iterP s.par m B.1 ≠ i) ∧ (0 < k → inN s k = []) := by
  unfold renE at h
  by_cases h1 : A.2.2 ≠ 0
  · rw [if_pos h1] at h; exact absurd h h1
  · rw [if_neg h1] at h
    by_cases h2 : B.2.2 ≠ 0
    · rw [if_pos h2] at h; exact absurd h h2
    · rw [if_neg h2] at h
      by_cases h3 : i = 0 ∨ namesOf (ndAt s.T B.1) = 0
      · rw [if_pos h3] at h; cases h
      · rw [if_neg h3, if_neg hik] at h
        by_cases h4 : isD s i = true ∧ belP s B.1 i = true
        · rw [if_pos h4] at h; cases h
        · rw [if_neg h4] at h
          refine ⟨by simpa using h1, by simpa using h2, fun e => h3 (.inl e), fun e => h3 (.inr e), fun hd m e => h4 ⟨hd, ?_⟩, fun hk => ?_⟩
          · exact bel_iff.2 ⟨m, e⟩
          · rw [if_pos hk] at h
            by_cases h5 : isD s i = true ∧ isD s k = false
            · rw [if_pos h5] at h; cases h
            · rw [if_neg h5] at h
              by_cases h6 : isD s i = false ∧ isD s k = true
              · rw [if_pos h6] at h; cases h
              · rw [if_neg h6] at h
                by_cases h7 : inN s k ≠ []
                · rw [if_pos h7] at h; cases h
                · simpa using h7
/-- From a directory that has a name the way up by parents comes to the root: each step is of a lower rank. -/
theorem NInv.up {s : NS} (H : NInv s) : ∃ rk : Int → Nat, ∀ i, kdI s.T i = 2 → 1 ≤ nmI s.T i → i ≠ 1 → rk (s.par i) < rk i ∧ kdI s.T (s.par i) = 2 ∧ 1 ≤ nmI s.T (s.par i) := by
  obtain ⟨rk, hr⟩ := H.rank
  refine ⟨rk, fun i hi hn h1 => ?_⟩
  have h2 := H.names i
  rw [if_neg h1] at h2
  have h3 : 0 < s.L.countP (fun x => decide (x.node = i)) := by omega
  obtain ⟨x, hx, e⟩ := List.countP_pos_iff.1 h3
  have e : x.node = i := by simpa using e
  subst e
  have hp := H.par x hx hi
  rw [hp]
  exact ⟨hr x hx hi, (H.dirs x hx).1, (H.dirs x hx).2⟩
theorem iter_same {s s1 : NS} (H : NInv s) (H1 : NInv s1) (hL : ∀ y ∈ s1.L, y ∈ s.L) (hkd : ∀ k, 1 ≤ nmI s1.T k → kdI s1.T k = kdI s.T k) : ∀ (m : Nat) (b : Int), kdI s1.T b = 2 → 1 ≤ nmI s1.T b → iterP s1.par m b = iterP s.par m b
  | 0, _, _, _ => rfl
  | m + 1, b, hb, hn => by
    show iterP s1.par m (s1.par b) = iterP s.par m (s.par b)
    by_cases e : b = 1
    · subst e
      have e1 : s1.par 1 = 1 := H1.par1
      have e2 : s.par 1 = 1 := H.par1
      rw [e1, e2]
      exact iter_same H H1 hL hkd m 1 hb hn
    · have h2 := H1.names b
      rw [if_neg e] at h2
      obtain ⟨y, hy, hyb⟩ := List.countP_pos_iff.1 (show 0 < s1.L.countP (fun x => decide (x.node = b)) by omega)
      have hyb : y.node = b := by simpa using hyb
      subst hyb
      have p1 : s1.par y.node = y.dir := H1.par y hy hb
      have p2 : s.par y.node = y.dir := H.par y (hL y hy) (by rw [← hkd y.node hn]; exact hb)
      rw [p1, p2]
      exact iter_same H H1 hL hkd m y.dir (H1.dirs y hy).1 (H1.dirs y hy).2
theorem keep_ren {s : NS} (H : NInv s) {dir : Int} {p q : List UInt8} : NInv (renS s (placeN s dir p) (placeN s dir q) (findN s (placeN s dir p).1 (placeN s dir p).2.1) (findN s (placeN s dir q).1 (placeN s dir q).2.1)) := by
  generalize hA : placeN s dir p = A
  generalize hB : placeN s dir q = B
  unfold renS
  by_cases h : renE s A B (findN s A.1 A.2.1) (findN s B.1 B.2.1) = 0 ∧ findN s A.1 A.2.1 ≠ findN s B.1 B.2.1
  · rw [if_pos h]
    obtain ⟨h1, h2, h3, h4, h5, h6⟩ := ren_ok h.1 h.2
    have hb : kdI s.T B.1 = 2 := by
      rw [← hB] at h2 ⊢
      exact place_dir h2
    have hbn : 1 ≤ nmI s.T B.1 := by unfold nmI; omega
    obtain ⟨x, hx, e1, e2, e3⟩ := find_some h3
    by_cases hk : 0 < findN s B.1 B.2.1
    · rw [if_pos hk]
      have hk0 : findN s B.1 B.2.1 ≠ 0 := by omega
      have H1 : NInv (goneS s B.1 B.2.1) := keep_gone H hk0 (fun _ => h6 hk)
      obtain ⟨y, hy, f1, f2, f3⟩ := find_some hk0
      have hyn : 1 ≤ nmI s.T y.node := NV.node1 H.names hy
      have hx1 : x ∈ (goneS s B.1 B.2.1).L := mem_drop.2 ⟨hx, fun e => h.2 (by
        have : x = y := H.srt.key hx hy (e.1.trans f1.symm) (e.2.trans f2.symm)
        rw [← e3, ← f3, this])⟩
      have hne : B.1 ≠ y.node := fun e => by
        obtain ⟨rk, hr⟩ := H.rank
        have := hr y hy (by rw [← e]; exact hb)
        rw [f1, e] at this
        omega
      have hu := unt_all hyn
      have eT : (goneS s B.1 B.2.1).T = untT s.T y.node := by unfold goneS; rw [f3]
      have hbn1 : 1 ≤ nmI (goneS s B.1 B.2.1).T B.1 := by rw [eT, (hu B.1).1, if_neg hne]; exact hbn
      have hb1 : kdI (goneS s B.1 B.2.1).T B.1 = 2 := by
        rw [eT] at hbn1 ⊢
        rw [(hu B.1).2 hbn1]
        exact hb
      have hxk : kdI (goneS s B.1 B.2.1).T x.node = kdI s.T x.node := by
        have := NV.node1 H1.names hx1
        rw [eT] at this ⊢
        exact (hu x.node).2 this
      have := NV.move H1 hx1 (b := B.1) (n := B.2.1) (par' := parU (goneS s B.1 B.2.1).par x.node B.1) hb1 hbn1 (fun z hz => (mem_drop.1 hz).2) (fun hd m => by
        rw [hxk] at hd
        rw [e3, iter_same H H1 (fun z hz => (mem_drop.1 hz).1) (fun k hk => by rw [eT] at hk ⊢; exact (hu k).2 hk) m B.1 hb1 hbn1]
        exact h5 (by rw [← e3]; unfold isD kd; exact decide_eq_true hd) m) (fun k hk => if_neg hk) (fun _ => if_pos rfl)
      rw [e1, e2, e3] at this
      exact this
    · rw [if_neg hk]
      have hk0 : findN s B.1 B.2.1 = 0 := by have := H.find_pos B.1 B.2.1; omega
      have := NV.move H hx (b := B.1) (n := B.2.1) (par' := parU s.par x.node B.1) hb hbn (H.find0 hk0) (fun hd => by
        rw [e3]
        exact h5 (by rw [← e3]; unfold isD kd; exact decide_eq_true hd)) (fun k hk => if_neg hk) (fun _ => if_pos rfl)
      rw [e1, e2, e3] at this
      exact this
  · rw [if_neg h]
    exact H
/-- A tree of the root alone. -/
def rootS (n : Nat) : NS := ⟨tieT (makeT (List.replicate n none) 2) 1, [], fun k => if k = 1 then 1 else 0⟩
theorem keep_root {n : Nat} (h : 1 ≤ n) : NInv (rootS n) := by
  obtain ⟨m, rfl⟩ : ∃ m, n = m + 1 := ⟨n - 1, by omega⟩
  have hf : frAt (List.replicate (m + 1) (none : Option Nd)) = 0 := by unfold frAt; simp [List.replicate_succ, List.findIdx_cons]
  have hE : makeE (List.replicate (m + 1) none) 2 = 0 := by unfold makeE; rw [hf]; simp [kindOk]
  have hN : makeN (List.replicate (m + 1) none) 2 = 1 := by unfold makeN; rw [hf]; simp [kindOk]
  obtain ⟨a1, a2, a3⟩ := make_all hE
  rw [hN] at a1 a3
  have a4 := a3 1
  rw [if_pos rfl] at a4
  have hnone : ∀ k : Int, ndAt (List.replicate (m + 1) (none : Option Nd)) k = none := fun k => by
    cases hx : ndAt (List.replicate (m + 1) (none : Option Nd)) k with
    | none => rfl
    | some x =>
      obtain ⟨j, _, hj, _⟩ := ndAt_some hx
      exact absurd hj (by rw [List.getElem?_replicate]; split <;> simp)
  have hnm : ∀ k, nmI (rootS (m + 1)).T k = if k = 1 then 1 else 0 := fun k => by
    show nmI (tieT (makeT (List.replicate (m + 1) none) 2) 1) k = _
    rw [(tie_all a4 k).1]
    unfold nmI
    rw [a3]
    split
    · rfl
    · rw [hnone]; rfl
  have hroot : kdI (rootS (m + 1)).T 1 = 2 := by
    show kdI (tieT (makeT (List.replicate (m + 1) none) 2) 1) 1 = 2
    rw [(tie_all a4 1).2]
    unfold kdI
    rw [a4]
    rfl
  have hL : ∀ x : Nm, x ∈ (rootS (m + 1)).L → False := fun x hx => by
    have : x ∈ ([] : List Nm) := hx
    cases this
  exact ⟨hroot, rfl, List.Pairwise.nil, fun x hx => (hL x hx).elim, fun i => by rw [hnm i]; show _ = 0 + _; omega, fun x hx => (hL x hx).elim, fun x hx => (hL x hx).elim, fun x hx => (hL x hx).elim, fun _ => 0, fun x hx => (hL x hx).elim⟩
theorem iter_one {par : Int → Int} (h : par 1 = 1) : ∀ m, iterP par m 1 = 1
  | 0 => rfl
  | m + 1 => by show iterP par m (par 1) = 1; rw [h]; exact iter_one h m
theorem iter_add (par : Int → Int) : ∀ (m n : Nat) (k : Int), iterP par (m + n) k = iterP par n (iterP par m k)
  | 0, n, k => by rw [Nat.zero_add]; rfl
  | m + 1, n, k => by rw [show m + 1 + n = (m + n) + 1 by omega]; exact iter_add par m n (par k)
/-- The way up has come to i, or to the root: what the document's below answers. -/
theorem bel_end {s : NS} (H : NInv s) {b i j : Int} {m : Nat} (h : iterP s.par m b = j) (hno : ∀ l, l < m → iterP s.par l b ≠ i) (he : j = i ∨ j = 1) : belP s b i = decide (j = i) := by
  by_cases e : j = i
  · rw [decide_eq_true e]
    exact bel_iff.2 ⟨m, h.trans e⟩
  · have h1 : j = 1 := he.resolve_left e
    rw [decide_eq_false e]
    cases hb : belP s b i with
    | false => rfl
    | true =>
      obtain ⟨l, hl⟩ := bel_iff.1 hb
      rcases Nat.lt_or_ge l m with h2 | h2
      · exact absurd hl (hno l h2)
      · obtain ⟨r, rfl⟩ : ∃ r, l = m + r := ⟨l - m, by omega⟩
        rw [iter_add, h, h1, iter_one H.par1] at hl
        exact absurd (h1.trans hl) e

end Go.Proofs.YtemologkibcdoaaGreatDoor

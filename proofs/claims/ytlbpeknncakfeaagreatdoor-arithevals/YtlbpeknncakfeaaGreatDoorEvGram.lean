/-
  How the document reads an expression: a plain function on lists of bytes, with fuel: between sides of the next rank stand operators of a rank.
  Both parsers without fuel: what they answer where the fuel suffices, and how each part calls the others.
  What the document reads is what the program reads, but where an operator that sets stands behind a side: there the program reads nothing, the document stops ahead of it.
  The two grammars, whole.
  A name as an operand.
  The two grammars, whole.
-/
import Derived.Test.YtlbpeknncakfeaaGreatDoorEvWork
import Derived.Test.YtlbpeknncakfeaaGreatDoorGap2

/- How the document reads an expression: a plain function on lists of bytes, with fuel: between sides of the next rank stand operators of a rank. -/
namespace Go.Proofs.YtlbpeknncakfeaaGreatDoor
open Go.RowKit Go.Maps
attribute [local irreducible] findOp findSign

theorem setD_len {m op b : List UInt8} (h : setD m = some (op, b)) : b.length + 1 + (nameOf m).length ≤ m.length ∧ 0 < (nameOf m).length := by
  unfold setD at h
  split at h
  · cases h
  · next hn =>
    have h2 := signD_len h
    have h3 := sk_len (m.drop (frontN m))
    have h4 : 0 < (nameOf m).length := by
      cases hm : nameOf m with
      | nil => rw [hm] at hn; simp at hn
      | cons => simp
    refine ⟨?_, h4⟩
    have h5 : (nameOf m).length = min (frontN m) m.length := by unfold nameOf; rw [List.length_take]
    rw [List.length_drop] at h3
    omega

mutual
def dAny : Nat → List UInt8 → Option (E × List UInt8)
  | 0, _ => none
  | k + 1, l => match setD (sk l) with
    | none => dChoice k (sk l)
    | some (op, b) => match dAny k b with
      | none => none
      | some (x, r) => some (mkSet (nameOf (sk l)) op x, r)
def dChoice : Nat → List UInt8 → Option (E × List UInt8)
  | 0, _ => none
  | k + 1, l => match dSides k 1 l with
    | none => none
    | some (c, r) => match tk 63 r with
      | none => some (c, sk r)
      | some r1 => match dAny k r1 with
        | none => none
        | some (y, r2) => match tk 58 r2 with
          | none => none
          | some r3 => match dChoice k r3 with
            | none => none
            | some (n, r4) => some (.choice c y n, r4)
def dSides : Nat → Nat → List UInt8 → Option (E × List UInt8)
  | 0, _, _ => none
  | k + 1, rank, l => if 10 < rank then dOperand k l else match dSides k (rank + 1) l with
    | none => none
    | some (x, r) => dLoop k rank x r
def dLoop : Nat → Nat → E → List UInt8 → Option (E × List UInt8)
  | 0, _, _, _ => none
  | k + 1, rank, x, l => match opD (sk l) with
    | none => some (x, sk l)
    | some (o, n) => if o.rank = rank then match dSides k (rank + 1) ((sk l).drop n) with
        | none => none
        | some (y, r) => dLoop k rank (.op o x y) r
      else some (x, sk l)
def dOperand : Nat → List UInt8 → Option (E × List UInt8)
  | 0, _ => none
  | k + 1, l => match sk l with
    | [] => none
    | c :: r => match findSign [c] with
      | some f => match dOperand k r with
        | none => none
        | some (x, r') => some (.sign f x, r')
      | none => if c = 40 then match dAny k r with
          | none => none
          | some (x, r1) => match tk 41 r1 with
            | none => none
            | some r2 => some (x, r2)
        else pWord (c :: r)
end

theorem dSides_succ (k n : Nat) (l : List UInt8) : dSides (k + 1) n l = if 10 < n then dOperand k l else match dSides k (n + 1) l with
    | none => none
    | some (x, r) => dLoop k n x r := by rw [dSides]

theorem d_len : ∀ k : Nat, (∀ l x r, dAny k l = some (x, r) → cost x + r.length ≤ l.length) ∧ (∀ l x r, dChoice k l = some (x, r) → cost x + r.length ≤ l.length) ∧ (∀ n l x r, dSides k n l = some (x, r) → cost x + r.length ≤ l.length) ∧
    (∀ n y l x r, dLoop k n y l = some (x, r) → cost x + r.length ≤ cost y + l.length) ∧ (∀ l x r, dOperand k l = some (x, r) → cost x + r.length ≤ l.length)
  | 0 => by
    refine ⟨fun l x r h => ?_, fun l x r h => ?_, fun n l x r h => ?_, fun n y l x r h => ?_, fun l x r h => ?_⟩
    · rw [dAny] at h; cases h
    · rw [dChoice] at h; cases h
    · rw [dSides] at h; cases h
    · rw [dLoop] at h; cases h
    · rw [dOperand] at h; cases h
  | k + 1 => by
    obtain ⟨iE, iC, iO, iL, iR⟩ := d_len k
    refine ⟨fun l x r h => ?_, fun l x r h => ?_, fun n l x r h => ?_, fun n y l x r h => ?_, fun l x r h => ?_⟩
    · have hs := sk_len l
      rw [dAny] at h
      split at h
      · have := iC _ _ _ h; omega
      · next op b hb =>
        have h1 := setD_len hb
        split at h
        · cases h
        · next x' r' hx =>
          have h2 := iE _ _ _ hx
          cases h
          have := cost_mkSet (nameOf (sk l)) op x'
          omega
    · rw [dChoice] at h
      split at h
      · cases h
      · next c r0 hc =>
        have h1 := iO _ _ _ _ hc
        split at h
        · cases h
          have := sk_len r0
          omega
        · next r1 h63 =>
          have h2 := tk_len h63
          split at h
          · cases h
          · next y r2 hy =>
            have h3 := iE _ _ _ hy
            split at h
            · cases h
            · next r3 h58 =>
              have h4 := tk_len h58
              split at h
              · cases h
              · next n r4 hn =>
                have h5 := iC _ _ _ hn
                cases h
                simp only [cost]
                omega
    · rw [dSides] at h
      split at h
      · exact iR _ _ _ h
      · split at h
        · cases h
        · next x' r' hx =>
          have h1 := iO _ _ _ _ hx
          have h2 := iL _ _ _ _ _ h
          omega
    · have hs := sk_len l
      rw [dLoop] at h
      split at h
      · cases h; omega
      · next o m ho =>
        have h0 := opD_le ho
        split at h
        · split at h
          · cases h
          · next y' r' hy =>
            have h1 := iO _ _ _ _ hy
            have h2 := iL _ _ _ _ _ h
            rw [List.length_drop] at h1
            simp only [cost] at h2
            omega
        · cases h; omega
    · have hs := sk_len l
      rw [dOperand] at h
      split at h
      · cases h
      · next c r0 hl =>
        rw [hl] at hs
        simp only [List.length_cons] at hs
        split at h
        · split at h
          · cases h
          · next x' r' hx =>
            have h1 := iR _ _ _ hx
            cases h
            simp only [cost]
            omega
        · split at h
          · split at h
            · cases h
            · next x' r1 hx =>
              have h1 := iE _ _ _ hx
              split at h
              · cases h
              · next r2 h41 =>
                have h2 := tk_len h41
                cases h
                omega
          · have := pWord_len h
            simp only [List.length_cons] at this
            omega

theorem d_more : ∀ k : Nat, (∀ l, 20 * l.length + 15 ≤ k → dAny (k + 1) l = dAny k l) ∧ (∀ l, 20 * l.length + 14 ≤ k → dChoice (k + 1) l = dChoice k l) ∧ (∀ n l, 20 * l.length + 2 + (11 - n) ≤ k → dSides (k + 1) n l = dSides k n l) ∧
    (∀ n x l, 20 * l.length + 1 ≤ k → dLoop (k + 1) n x l = dLoop k n x l) ∧ (∀ l, 20 * l.length + 1 ≤ k → dOperand (k + 1) l = dOperand k l)
  | 0 => ⟨fun _ h => by omega, fun _ h => by omega, fun _ _ h => by omega, fun _ _ _ h => by omega, fun _ h => by omega⟩
  | k + 1 => by
    obtain ⟨iE, iC, iO, iL, iR⟩ := d_more k
    obtain ⟨lE, lC, lO, lL, lR⟩ := d_len k
    refine ⟨fun l h => ?_, fun l h => ?_, fun n l h => ?_, fun n x l h => ?_, fun l h => ?_⟩
    · have hs := sk_len l
      rw [dAny, dAny]
      rcases hsa : setD (sk l) with _ | ⟨op, b⟩
      · exact iC _ (by omega)
      · simp only []
        have := (setD_len hsa).1
        rw [iE b (by omega)]
    · rw [dChoice, dChoice, iO 1 l (by omega)]
      rcases hp : dSides k 1 l with _ | ⟨c, r⟩
      · rfl
      · simp only []
        have h1 := lO _ _ _ _ hp
        rcases h63 : tk 63 r with _ | r1
        · rfl
        · simp only []
          have h2 := tk_len h63
          rw [iE r1 (by omega)]
          rcases hy : dAny k r1 with _ | ⟨y, r2⟩
          · rfl
          · simp only []
            have h3 := lE _ _ _ hy
            rcases h58 : tk 58 r2 with _ | r3
            · rfl
            · simp only []
              have h4 := tk_len h58
              rw [iC r3 (by omega)]
    · rw [dSides_succ (k + 1) n l, dSides_succ k n l]
      by_cases hn : 10 < n
      · rw [if_pos hn, if_pos hn]
        exact iR l (by omega)
      · rw [if_neg hn, if_neg hn, iO (n + 1) l (by omega)]
        rcases hp : dSides k (n + 1) l with _ | ⟨x, r⟩
        · rfl
        · have h1 := lO _ _ _ _ hp
          exact iL n x r (by omega)
    · have hs := sk_len l
      rw [dLoop, dLoop]
      rcases ho : opD (sk l) with _ | ⟨o, m⟩
      · rfl
      · simp only []
        have h0 := opD_le ho
        by_cases hr : o.rank = n
        · rw [if_pos hr, if_pos hr]
          have hd : ((sk l).drop m).length + 1 ≤ l.length := by rw [List.length_drop]; omega
          rw [iO (n + 1) _ (by omega)]
          rcases hp : dSides k (n + 1) ((sk l).drop m) with _ | ⟨y, r⟩
          · rfl
          · have h1 := lO _ _ _ _ hp
            exact iL n _ r (by omega)
        · rw [if_neg hr, if_neg hr]
    · have hs := sk_len l
      rw [dOperand, dOperand]
      rcases hm : sk l with _ | ⟨c, r⟩
      · rfl
      · rw [hm] at hs
        simp only [List.length_cons] at hs
        simp only []
        rcases hf : findSign [c] with _ | f
        · simp only []
          by_cases hc : c = 40
          · rw [if_pos hc, if_pos hc, iE r (by omega)]
          · rw [if_neg hc, if_neg hc]
        · simp only []
          rw [iR r (by omega)]

end Go.Proofs.YtlbpeknncakfeaaGreatDoor

/- Both parsers without fuel: what they answer where the fuel suffices, and how each part calls the others. -/
namespace Go.Proofs.YtlbpeknncakfeaaGreatDoor
open Go.RowKit Go.Maps
attribute [local irreducible] findOp findSign

theorem stable {α : Type} {f : Nat → α} {m : Nat} (h : ∀ k, m ≤ k → f (k + 1) = f k) : ∀ k, m ≤ k → f k = f m := by
  intro k hk
  obtain ⟨j, rfl⟩ : ∃ j, k = m + j := ⟨k - m, by omega⟩
  induction j with
  | zero => rfl
  | succ j ih => rw [← Nat.add_assoc, h (m + j) (by omega), ih (by omega)]

def PE (l : List UInt8) := pExpr (5 * l.length + 5) l
def PC (l : List UInt8) := pChoice (5 * l.length + 4) l
def PO (n : Nat) (l : List UInt8) := pOp (5 * l.length + 3) n l
def PL (n : Nat) (x : E) (l : List UInt8) := pLoop (5 * l.length + 2) n x l
def PR (l : List UInt8) := pOperand (5 * l.length + 1) l
def DE (l : List UInt8) := dAny (20 * l.length + 15) l
def DC (l : List UInt8) := dChoice (20 * l.length + 14) l
def DS (n : Nat) (l : List UInt8) := dSides (20 * l.length + 2 + (11 - n)) n l
def DL (n : Nat) (x : E) (l : List UInt8) := dLoop (20 * l.length + 1) n x l
def DR (l : List UInt8) := dOperand (20 * l.length + 1) l

theorem PE_at {l : List UInt8} {k : Nat} (h : 5 * l.length + 5 ≤ k) : pExpr k l = PE l := stable (f := fun k => pExpr k l) (fun k hk => (p_more k).1 l hk) k h
theorem PC_at {l : List UInt8} {k : Nat} (h : 5 * l.length + 4 ≤ k) : pChoice k l = PC l := stable (f := fun k => pChoice k l) (fun k hk => (p_more k).2.1 l hk) k h
theorem PO_at {n : Nat} {l : List UInt8} {k : Nat} (h : 5 * l.length + 3 ≤ k) : pOp k n l = PO n l := stable (f := fun k => pOp k n l) (fun k hk => (p_more k).2.2.1 n l hk) k h
theorem PL_at {n : Nat} {x : E} {l : List UInt8} {k : Nat} (h : 5 * l.length + 2 ≤ k) : pLoop k n x l = PL n x l := stable (f := fun k => pLoop k n x l) (fun k hk => (p_more k).2.2.2.1 n x l hk) k h
theorem PR_at {l : List UInt8} {k : Nat} (h : 5 * l.length + 1 ≤ k) : pOperand k l = PR l := stable (f := fun k => pOperand k l) (fun k hk => (p_more k).2.2.2.2 l hk) k h
theorem DE_at {l : List UInt8} {k : Nat} (h : 20 * l.length + 15 ≤ k) : dAny k l = DE l := stable (f := fun k => dAny k l) (fun k hk => (d_more k).1 l hk) k h
theorem DC_at {l : List UInt8} {k : Nat} (h : 20 * l.length + 14 ≤ k) : dChoice k l = DC l := stable (f := fun k => dChoice k l) (fun k hk => (d_more k).2.1 l hk) k h
theorem DS_at {n : Nat} {l : List UInt8} {k : Nat} (h : 20 * l.length + 2 + (11 - n) ≤ k) : dSides k n l = DS n l := stable (f := fun k => dSides k n l) (fun k hk => (d_more k).2.2.1 n l hk) k h
theorem DL_at {n : Nat} {x : E} {l : List UInt8} {k : Nat} (h : 20 * l.length + 1 ≤ k) : dLoop k n x l = DL n x l := stable (f := fun k => dLoop k n x l) (fun k hk => (d_more k).2.2.2.1 n x l hk) k h
theorem DR_at {l : List UInt8} {k : Nat} (h : 20 * l.length + 1 ≤ k) : dOperand k l = DR l := stable (f := fun k => dOperand k l) (fun k hk => (d_more k).2.2.2.2 l hk) k h

theorem PR_len {l r : List UInt8} {x : E} (h : PR l = some (x, r)) : r.length ≤ l.length := by have := (p_len _).2.2.2.2 _ _ _ h; omega
theorem PO_len {n : Nat} {l r : List UInt8} {x : E} (h : PO n l = some (x, r)) : r.length ≤ l.length := by have := (p_len _).2.2.1 _ _ _ _ h; omega
theorem DS_len {n : Nat} {l r : List UInt8} {x : E} (h : DS n l = some (x, r)) : r.length ≤ l.length := by have := (d_len _).2.2.1 _ _ _ _ h; omega
theorem DR_len {l r : List UInt8} {x : E} (h : DR l = some (x, r)) : r.length ≤ l.length := by have := (d_len _).2.2.2.2 _ _ _ h; omega

theorem PO_eq (n : Nat) (l : List UInt8) : PO n l = match PR l with
    | none => none
    | some (x, r) => PL n x r := by
  unfold PO
  rw [pOp, PR_at (by omega)]
  rcases h : PR l with _ | ⟨x, r⟩
  · rfl
  · have := PR_len h
    exact PL_at (by omega)
theorem PL_eq (n : Nat) (x : E) (l : List UInt8) : PL n x l = match opAt (sk l) with
    | none => some (x, sk l)
    | some (o, m) => if o.rank < n then some (x, sk l) else match PO (o.rank + 1) ((sk l).drop m) with
      | none => none
      | some (y, r) => PL n (.op o x y) r := by
  unfold PL
  rw [pLoop]
  have hs := sk_len l
  rcases ho : opAt (sk l) with _ | ⟨o, m⟩
  · rfl
  · simp only []
    have h0 := opAt_le ho
    have hd : ((sk l).drop m).length + 1 ≤ l.length := by rw [List.length_drop]; omega
    split
    · rfl
    · rw [PO_at (by omega)]
      rcases h : PO (o.rank + 1) ((sk l).drop m) with _ | ⟨y, r⟩
      · rfl
      · have := PO_len h
        exact PL_at (by omega)
theorem DS_eq (n : Nat) (l : List UInt8) : DS n l = if 10 < n then DR l else match DS (n + 1) l with
    | none => none
    | some (x, r) => DL n x r := by
  rw [← DS_at (n := n) (l := l) (k := 20 * l.length + 1 + (11 - n) + 1) (by omega), dSides_succ]
  by_cases hn : 10 < n
  · rw [if_pos hn, if_pos hn]
    exact DR_at (by omega)
  · rw [if_neg hn, if_neg hn, DS_at (by omega)]
    rcases h : DS (n + 1) l with _ | ⟨x, r⟩
    · rfl
    · have := DS_len h
      exact DL_at (by omega)
theorem DL_eq (n : Nat) (x : E) (l : List UInt8) : DL n x l = match opD (sk l) with
    | none => some (x, sk l)
    | some (o, m) => if o.rank = n then match DS (n + 1) ((sk l).drop m) with
        | none => none
        | some (y, r) => DL n (.op o x y) r
      else some (x, sk l) := by
  unfold DL
  rw [dLoop]
  have hs := sk_len l
  rcases ho : opD (sk l) with _ | ⟨o, m⟩
  · rfl
  · simp only []
    have h0 := opD_le ho
    have hd : ((sk l).drop m).length + 1 ≤ l.length := by rw [List.length_drop]; omega
    split
    · rw [DS_at (by omega)]
      rcases h : DS (n + 1) ((sk l).drop m) with _ | ⟨y, r⟩
      · rfl
      · have := DS_len h
        exact DL_at (by omega)
    · rfl
theorem DL_sk (n : Nat) (x : E) {l m : List UInt8} (h : sk l = sk m) : DL n x l = DL n x m := by rw [DL_eq, DL_eq, h]

end Go.Proofs.YtlbpeknncakfeaaGreatDoor

/- What the document reads is what the program reads, but where an operator that sets stands behind a side: there the program reads nothing, the document stops ahead of it. -/
namespace Go.Proofs.YtlbpeknncakfeaaGreatDoor
open Go.RowKit Go.Maps

def Rel (p d : Option (E × List UInt8)) : Prop :=
  (∃ x r r', p = some (x, r) ∧ d = some (x, r') ∧ sk r = sk r') ∨ (p = none ∧ d = none) ∨ (p = none ∧ ∃ x r, d = some (x, r) ∧ stuckB (sk r) = true)
theorem Rel.some {x : E} {r r' : List UInt8} (h : sk r = sk r') : Rel (.some (x, r)) (.some (x, r')) := .inl ⟨x, r, r', rfl, rfl, h⟩
theorem Rel.none : Rel .none .none := .inr (.inl ⟨rfl, rfl⟩)
theorem Rel.stuck {x : E} {r : List UInt8} (h : stuckB (sk r) = true) : Rel .none (.some (x, r)) := .inr (.inr ⟨rfl, x, r, rfl, h⟩)

theorem word_eq (t : List UInt8) : pWord (61 :: t) = none := by rfl
theorem PR_set (t : List UInt8) : PR (61 :: t) = none := by
  unfold PR
  rw [pOperand]
  have h : sk (61 :: t) = 61 :: t := rfl
  rw [h]
  simp only []
  have hf : findSign [61] = none := by kernel_rfl
  rw [hf]
  simp only []
  rw [if_neg (by decide)]
  exact word_eq t
theorem stuck_cases {m : List UInt8} (h : stuckB m = true) : ∃ x t, m = x :: 61 :: t ∧ (x = 43 ∨ x = 45 ∨ x = 42 ∨ x = 47 ∨ x = 37) := by
  match m with
  | [] => cases h
  | [_] => cases h
  | x :: y :: t =>
    have h' : ((y == 61) && ((x == 43) || (x == 45) || (x == 42) || (x == 47) || (x == 37))) = true := h
    simp only [Bool.and_eq_true, Bool.or_eq_true, beq_iff_eq] at h'
    obtain ⟨rfl, h2⟩ := h'
    exact ⟨x, t, rfl, by rcases h2 with (((h | h) | h) | h) | h <;> simp [h]⟩
theorem stuck_fail {m : List UInt8} {o : Opr} {k n : Nat} (h : stuckB m = true) (ho : opAt m = some (o, k)) : PO n (m.drop k) = none := by
  obtain ⟨x, t, rfl, hx⟩ := stuck_cases h
  have hk : k = 1 := by
    rw [opAt_two] at ho
    rcases hx with rfl | rfl | rfl | rfl | rfl
    · rw [show opAt [43, 61] = some (⟨9, 76, none, false⟩, 1) by kernel_rfl] at ho; cases ho; rfl
    · rw [show opAt [45, 61] = some (⟨9, 77, none, false⟩, 1) by kernel_rfl] at ho; cases ho; rfl
    · rw [show opAt [42, 61] = some (⟨10, 78, none, false⟩, 1) by kernel_rfl] at ho; cases ho; rfl
    · rw [show opAt [47, 61] = some (⟨10, 79, none, true⟩, 1) by kernel_rfl] at ho; cases ho; rfl
    · rw [show opAt [37, 61] = some (⟨10, 80, none, true⟩, 1) by kernel_rfl] at ho; cases ho; rfl
  subst hk
  rw [PO_eq, show (x :: 61 :: t).drop 1 = 61 :: t from rfl, PR_set]
theorem opD_stuck {m : List UInt8} (h : stuckB m = true) : opD m = none := by unfold opD; rw [if_pos h]
theorem opD_free {m : List UInt8} (h : stuckB m = false) : opD m = opAt m := by unfold opD; rw [h, if_neg (by decide)]

/-- Behind a side stands no operator of its rank or above. -/
def Ends (n : Nat) (r : List UInt8) : Prop := ∀ o m, opAt (sk r) = some (o, m) → o.rank < n
theorem PL_ends : ∀ (N : Nat) (n : Nat) (x : E) (l : List UInt8) (y : E) (r : List UInt8), l.length ≤ N → PL n x l = some (y, r) → Ends n r
  | N, n, x, l, y, r, hN, h => by
    have hs := sk_len l
    rw [PL_eq] at h
    rcases ho : opAt (sk l) with _ | ⟨o, m⟩
    · rw [ho] at h
      cases h
      intro o m h1
      rw [sk_sk, ho] at h1
      cases h1
    · rw [ho] at h
      simp only [] at h
      have h0 := opAt_le ho
      have hd : ((sk l).drop m).length + 1 ≤ l.length := by rw [List.length_drop]; omega
      by_cases hr : o.rank < n
      · rw [if_pos hr] at h
        cases h
        intro o' m' h1
        rw [sk_sk, ho] at h1
        cases h1
        exact hr
      · rw [if_neg hr] at h
        rcases hp : PO (o.rank + 1) ((sk l).drop m) with _ | ⟨z, r1⟩
        · rw [hp] at h; cases h
        · rw [hp] at h
          have h1 := PO_len hp
          match N, hN with
          | 0, hN => omega
          | N + 1, hN => exact PL_ends N n _ r1 y r (by omega) h
theorem PO_ends {n : Nat} {l r : List UInt8} {y : E} (h : PO n l = some (y, r)) : Ends n r := by
  rw [PO_eq] at h
  rcases hp : PR l with _ | ⟨x, r1⟩
  · rw [hp] at h; cases h
  · rw [hp] at h; exact PL_ends _ n x r1 y r (Nat.le_refl _) h
theorem PL_stop {n : Nat} {x : E} {r : List UInt8} (h : Ends n r) : PL n x r = some (x, sk r) := by
  rw [PL_eq]
  rcases ho : opAt (sk r) with _ | ⟨o, m⟩
  · rfl
  · simp only []
    rw [if_pos (h o m ho)]

/-- A loop of a rank: a loop of the next rank, then the document's loop of this one. -/
theorem loop_split : ∀ (N : Nat) (l : List UInt8), l.length ≤ N → (∀ m : List UInt8, m.length < l.length → ∀ n, Rel (PO n m) (DS n m)) → ∀ (n : Nat) (x : E), Rel (PL n x l) (match PL (n + 1) x l with
    | none => none
    | some (y, r) => DL n y r)
  | N, l, hN, hI, n, x => by
    have hs := sk_len l
    rw [PL_eq n x l, PL_eq (n + 1) x l]
    rcases ho : opAt (sk l) with _ | ⟨o, m⟩
    · simp only []
      rw [DL_eq, sk_sk]
      have hd : opD (sk l) = none := by unfold opD; rw [ho]; split <;> rfl
      rw [hd]
      exact Rel.some (by rw [sk_sk])
    · simp only []
      have h0 := opAt_le ho
      have hd : ((sk l).drop m).length + 1 ≤ l.length := by rw [List.length_drop]; omega
      by_cases hlt : o.rank < n
      · rw [if_pos hlt, if_pos (by omega)]
        simp only []
        rw [DL_eq, sk_sk]
        rcases Bool.eq_false_or_eq_true (stuckB (sk l)) with hst | hst
        · rw [opD_stuck hst]
          exact Rel.some rfl
        · rw [opD_free hst, ho]
          simp only []
          rw [if_neg (by omega)]
          exact Rel.some rfl
      · rw [if_neg hlt]
        by_cases heq : o.rank = n
        · rw [if_pos (by omega)]
          simp only []
          rw [DL_eq, sk_sk]
          rcases Bool.eq_false_or_eq_true (stuckB (sk l)) with hst | hst
          · rw [opD_stuck hst, stuck_fail hst ho]
            exact Rel.stuck (by rw [sk_sk]; exact hst)
          · rw [opD_free hst, ho]
            simp only []
            rw [if_pos heq, heq]
            rcases hI ((sk l).drop m) (by omega) (n + 1) with ⟨y, r, r', hp, hq, hrr⟩ | ⟨hp, hq⟩ | ⟨hp, y, r', hq, hst2⟩
            · rw [hp, hq]
              simp only []
              have h1 := PO_len hp
              have he := PO_ends hp
              match N, hN with
              | 0, hN => omega
              | N + 1, hN =>
                have := loop_split N r (by omega) (fun m hm => hI m (by omega)) n (.op o x y)
                rw [PL_stop he] at this
                simp only [] at this
                rw [DL_sk n (.op o x y) (l := sk r) (m := r') (by rw [sk_sk]; exact hrr)] at this
                exact this
            · rw [hp, hq]
              exact Rel.none
            · rw [hp, hq]
              simp only []
              rw [DL_eq, opD_stuck hst2]
              exact Rel.stuck (by rw [sk_sk]; exact hst2)
        · rw [if_neg (by omega)]
          rcases hp : PO (o.rank + 1) ((sk l).drop m) with _ | ⟨y, r⟩
          · exact Rel.none
          · simp only []
            have h1 := PO_len hp
            match N, hN with
            | 0, hN => omega
            | N + 1, hN => exact loop_split N r (by omega) (fun m hm => hI m (by omega)) n (.op o x y)

end Go.Proofs.YtlbpeknncakfeaaGreatDoor

/- The two grammars, whole. -/
namespace Go.Proofs.YtlbpeknncakfeaaGreatDoor
open Go.RowKit Go.Maps
attribute [local irreducible] findOp findSign

theorem tk_sk {c : UInt8} {l m : List UInt8} (h : sk l = sk m) : tk c l = tk c m := by unfold tk; rw [h]
theorem tk_stuck {c : UInt8} {l : List UInt8} (h : stuckB (sk l) = true) (h1 : c ≠ 43) (h2 : c ≠ 45) (h3 : c ≠ 42) (h4 : c ≠ 47) (h5 : c ≠ 37) : tk c l = none := by
  obtain ⟨x, t, hm, hx⟩ := stuck_cases h
  unfold tk
  rw [hm]
  have hne : ¬ c = x := by rcases hx with rfl | rfl | rfl | rfl | rfl <;> assumption
  rw [if_neg]
  simp [Lib.hasPrefix, hne]

theorem PE_len {l r : List UInt8} {x : E} (h : PE l = some (x, r)) : r.length ≤ l.length := by have := (p_len _).1 _ _ _ h; omega
theorem DE_len {l r : List UInt8} {x : E} (h : DE l = some (x, r)) : r.length ≤ l.length := by have := (d_len _).1 _ _ _ h; omega
theorem PE_eq (l : List UInt8) : PE l = match setAt (sk l) with
    | none => PC (sk l)
    | some (op, b) => match PE b with
      | none => none
      | some (x, r) => some (mkSet (nameOf (sk l)) op x, r) := by
  have hs := sk_len l
  unfold PE
  rw [pExpr]
  rcases h : setAt (sk l) with _ | ⟨op, b⟩
  · exact PC_at (by omega)
  · simp only []
    have := (setAt_len h).1
    rw [PE_at (l := b) (by omega)]
    rfl
theorem DE_eq (l : List UInt8) : DE l = match setD (sk l) with
    | none => DC (sk l)
    | some (op, b) => match DE b with
      | none => none
      | some (x, r) => some (mkSet (nameOf (sk l)) op x, r) := by
  have hs := sk_len l
  unfold DE
  rw [dAny]
  rcases h : setD (sk l) with _ | ⟨op, b⟩
  · exact DC_at (by omega)
  · simp only []
    have := (setD_len h).1
    rw [DE_at (l := b) (by omega)]
    rfl
theorem PC_eq (l : List UInt8) : PC l = match PO 1 l with
    | none => none
    | some (c, r) => match tk 63 r with
      | none => some (c, sk r)
      | some r1 => match PE r1 with
        | none => none
        | some (y, r2) => match tk 58 r2 with
          | none => none
          | some r3 => match PC r3 with
            | none => none
            | some (n, r4) => some (.choice c y n, r4) := by
  unfold PC
  rw [pChoice, PO_at (by omega)]
  rcases h : PO 1 l with _ | ⟨c, r⟩
  · rfl
  · simp only []
    have h1 := PO_len h
    rcases h63 : tk 63 r with _ | r1
    · rfl
    · simp only []
      have h2 := tk_len h63
      rw [PE_at (l := r1) (by omega)]
      rcases hy : PE r1 with _ | ⟨y, r2⟩
      · rfl
      · simp only []
        have h3 := PE_len hy
        rcases h58 : tk 58 r2 with _ | r3
        · rfl
        · simp only []
          have h4 := tk_len h58
          rw [PC_at (l := r3) (by omega)]
          rfl
theorem DC_eq (l : List UInt8) : DC l = match DS 1 l with
    | none => none
    | some (c, r) => match tk 63 r with
      | none => some (c, sk r)
      | some r1 => match DE r1 with
        | none => none
        | some (y, r2) => match tk 58 r2 with
          | none => none
          | some r3 => match DC r3 with
            | none => none
            | some (n, r4) => some (.choice c y n, r4) := by
  unfold DC
  rw [dChoice, DS_at (by omega)]
  rcases h : DS 1 l with _ | ⟨c, r⟩
  · rfl
  · simp only []
    have h1 := DS_len h
    rcases h63 : tk 63 r with _ | r1
    · rfl
    · simp only []
      have h2 := tk_len h63
      rw [DE_at (l := r1) (by omega)]
      rcases hy : DE r1 with _ | ⟨y, r2⟩
      · rfl
      · simp only []
        have h3 := DE_len hy
        rcases h58 : tk 58 r2 with _ | r3
        · rfl
        · simp only []
          have h4 := tk_len h58
          rw [DC_at (l := r3) (by omega)]
          rfl
theorem PR_eq (l : List UInt8) : PR l = match sk l with
    | [] => none
    | c :: r => match findSign [c] with
      | some f => match PR r with
        | none => none
        | some (x, r') => some (.sign f x, r')
      | none => if c = 40 then match PE r with
          | none => none
          | some (x, r1) => match tk 41 r1 with
            | none => none
            | some r2 => some (x, r2)
        else pWord (c :: r) := by
  have hs := sk_len l
  unfold PR
  rw [pOperand]
  rcases hm : sk l with _ | ⟨c, r⟩
  · rfl
  · rw [hm] at hs
    simp only [List.length_cons] at hs
    simp only []
    rcases hf : findSign [c] with _ | f
    · simp only []
      by_cases hc : c = 40
      · rw [if_pos hc, if_pos hc, PE_at (by omega)]
        rfl
      · rw [if_neg hc, if_neg hc]
    · simp only []
      rw [PR_at (l := r) (by omega)]
      rfl
theorem DR_eq (l : List UInt8) : DR l = match sk l with
    | [] => none
    | c :: r => match findSign [c] with
      | some f => match DR r with
        | none => none
        | some (x, r') => some (.sign f x, r')
      | none => if c = 40 then match DE r with
          | none => none
          | some (x, r1) => match tk 41 r1 with
            | none => none
            | some r2 => some (x, r2)
        else pWord (c :: r) := by
  have hs := sk_len l
  unfold DR
  rw [dOperand]
  rcases hm : sk l with _ | ⟨c, r⟩
  · rfl
  · rw [hm] at hs
    simp only [List.length_cons] at hs
    simp only []
    rcases hf : findSign [c] with _ | f
    · simp only []
      by_cases hc : c = 40
      · rw [if_pos hc, if_pos hc, DE_at (by omega)]
        try rfl
      · rw [if_neg hc, if_neg hc]
    · simp only []
      rw [DR_at (l := r) (by omega)]
      rfl

theorem rest_ends (n : Nat) (hn : 10 < n) (r : List UInt8) : Ends n r := by
  intro o m h
  have := (rank_le (opAt_le h).2.2).2.2
  omega

end Go.Proofs.YtlbpeknncakfeaaGreatDoor

/- A name as an operand. -/
namespace Go.Proofs.YtlbpeknncakfeaaGreatDoor
open Go.RowKit Go.Maps

theorem span_take (p : Int → Bool) : ∀ l : List UInt8, spanN p (l.take (spanN p l)) = spanN p l
  | [] => rfl
  | c :: l => by
    rw [spanN_cons]
    by_cases h : p (c.toNat : Int) = true
    · rw [if_pos h, List.take_succ_cons, spanN_cons, if_pos h, span_take p l]
    · rw [if_neg h]
      rfl
def alpChk (x : UInt8) : Bool := !alpB (x.toNat : Int) || (!gaps.contains x && (findSign [x]).isNone && !(x == 40) && namB (x.toNat : Int))
theorem alp_all : ∀ x : Fin 256, alpChk (UInt8.ofNat x.val) = true := by decide +kernel
theorem alp_facts {c : UInt8} (h : alpB (c.toNat : Int) = true) : gaps.contains c = false ∧ findSign [c] = none ∧ ¬ c = 40 ∧ namB (c.toNat : Int) = true := by
  have h1 := alp_all ⟨c.toNat, c.toNat_lt⟩
  have h2 : alpChk c = true := by simpa using h1
  unfold alpChk at h2
  rw [h] at h2
  simp only [Bool.not_true, Bool.false_or, Bool.and_eq_true, Bool.not_eq_true', Option.isNone_iff_eq_none, beq_eq_false_iff_ne] at h2
  exact ⟨h2.1.1.1, h2.1.1.2, h2.1.2, h2.2⟩
theorem front_alp {c : UInt8} {r : List UInt8} (h : alpB (c.toNat : Int) = true) : frontN (c :: r) = spanN namB (c :: r) := by
  show (if alpB (c.toNat : Int) = true then spanN namB (c :: r) else 0) = _
  rw [if_pos h]
theorem word_name {c : UInt8} {r : List UInt8} (h : alpB (c.toNat : Int) = true) : pWord (c :: r) = some (.name (nameOf (c :: r)), (c :: r).drop (frontN (c :: r))) := by
  have hf := alp_facts h
  have hw : wordL (c :: r) = c :: r.take (spanN namB r) := by
    unfold wordL
    rw [spanN_cons, if_pos hf.2.2.2, List.take_succ_cons]
  have hn : nameB (BA (wordL (c :: r))) = true := by
    unfold nameB
    rw [BA_list, BA_size, hw, front_alp h, spanN_cons, if_pos hf.2.2.2, span_take]
    have := spanN_le namB r
    simp
    omega
  unfold pWord
  rw [if_pos hn]
  unfold nameOf wordL
  rw [front_alp h]
theorem PR_name {c : UInt8} {r : List UInt8} (h : alpB (c.toNat : Int) = true) : PR (c :: r) = some (.name (nameOf (c :: r)), (c :: r).drop (frontN (c :: r))) := by
  have hf := alp_facts h
  have hs : sk (c :: r) = c :: r := by rw [sk_eq, List.dropWhile_cons, if_neg (by rw [hf.1]; decide)]
  rw [PR_eq, hs]
  simp only []
  rw [hf.2.1]
  simp only []
  rw [if_neg hf.2.2.1]
  exact word_name h

end Go.Proofs.YtlbpeknncakfeaaGreatDoor

/- The two grammars, whole. -/
namespace Go.Proofs.YtlbpeknncakfeaaGreatDoor
open Go.RowKit Go.Maps
attribute [local irreducible] findOp findSign

theorem DR_set (t : List UInt8) : DR (61 :: t) = none := by
  rw [DR_eq]
  have h : sk (61 :: t) = 61 :: t := rfl
  rw [h]
  simp only []
  have hf : findSign [61] = none := by kernel_rfl
  rw [hf]
  simp only []
  rw [if_neg (by decide)]
  exact word_eq t
theorem DS_set (t : List UInt8) : ∀ d n, 11 ≤ n + d → DS n (61 :: t) = none
  | 0, n, h => by rw [DS_eq, if_pos (by omega)]; exact DR_set t
  | d + 1, n, h => by
    rw [DS_eq]
    by_cases h10 : 10 < n
    · rw [if_pos h10]; exact DR_set t
    · rw [if_neg h10, DS_set t d (n + 1) (by omega)]
theorem DE_set (t : List UInt8) : DE (61 :: t) = none := by
  rw [DE_eq]
  have h : setD (sk (61 :: t)) = none := rfl
  rw [h]
  simp only []
  rw [show sk (61 :: t) = 61 :: t from rfl, DC_eq, DS_set t 11 1 (by omega)]
theorem stuck_op {m : List UInt8} (h : stuckB m = true) : ∃ o k, opAt m = some (o, k) ∧ 0 < o.rank := by
  obtain ⟨x, t, rfl, hx⟩ := stuck_cases h
  rw [opAt_two]
  rcases hx with rfl | rfl | rfl | rfl | rfl
  · exact ⟨⟨9, 76, none, false⟩, 1, by kernel_rfl, by decide⟩
  · exact ⟨⟨9, 77, none, false⟩, 1, by kernel_rfl, by decide⟩
  · exact ⟨⟨10, 78, none, false⟩, 1, by kernel_rfl, by decide⟩
  · exact ⟨⟨10, 79, none, true⟩, 1, by kernel_rfl, by decide⟩
  · exact ⟨⟨10, 80, none, true⟩, 1, by kernel_rfl, by decide⟩
theorem corner_pc {m : List UInt8} (hne : (nameOf m).isEmpty = false) (hst : stuckB (sk (m.drop (frontN m))) = true) : PC m = none := by
  match m, hne, hst with
  | [], hne, _ => cases hne
  | c :: r, hne, hst =>
    have ha : alpB (c.toNat : Int) = true := by
      rcases Bool.eq_false_or_eq_true (alpB (c.toNat : Int)) with h | h
      · exact h
      · have hz : frontN (c :: r) = 0 := by
          show (if alpB (c.toNat : Int) = true then spanN namB (c :: r) else 0) = 0
          rw [h, if_neg (by decide)]
        unfold nameOf at hne
        rw [hz] at hne
        cases hne
    obtain ⟨o, k, ho, hk⟩ := stuck_op hst
    rw [PC_eq, PO_eq, PR_name ha]
    simp only []
    rw [PL_eq, ho]
    simp only []
    rw [if_neg (by omega), stuck_fail hst ho]

theorem grammars : ∀ (N : Nat) (l : List UInt8), l.length ≤ N → Rel (PE l) (DE l) ∧ Rel (PC l) (DC l) ∧ (∀ n, Rel (PO n l) (DS n l)) ∧ Rel (PR l) (DR l)
  | N, l, hN => by
    have IH : ∀ m : List UInt8, m.length < N → Rel (PE m) (DE m) ∧ Rel (PC m) (DC m) ∧ (∀ n, Rel (PO n m) (DS n m)) ∧ Rel (PR m) (DR m) := fun m hm => by
      match N, hm with
      | N + 1, hm => exact grammars N m (by omega)
    have iR : ∀ m : List UInt8, m.length ≤ N → Rel (PR m) (DR m) := fun l hN => by
      have hs := sk_len l
      rw [PR_eq, DR_eq]
      rcases hm : sk l with _ | ⟨c, r⟩
      · exact Rel.none
      · rw [hm] at hs
        simp only [List.length_cons] at hs
        simp only []
        rcases hf : findSign [c] with _ | f
        · simp only []
          by_cases hc : c = 40
          · rw [if_pos hc, if_pos hc]
            rcases (IH r (by omega)).1 with ⟨y, r1, r', hp, hq, hrr⟩ | ⟨hp, hq⟩ | ⟨hp, y, r', hq, hst⟩
            · rw [hp, hq]
              simp only []
              rw [tk_sk hrr]
              rcases tk 41 r' with _ | r2
              · exact Rel.none
              · exact Rel.some rfl
            · rw [hp, hq]; exact Rel.none
            · rw [hp, hq]
              simp only []
              rw [tk_stuck hst (by decide) (by decide) (by decide) (by decide) (by decide)]
              exact Rel.none
          · rw [if_neg hc, if_neg hc]
            rcases pWord (c :: r) with _ | ⟨x, r1⟩
            · exact Rel.none
            · exact Rel.some rfl
        · simp only []
          rcases (IH r (by omega)).2.2.2 with ⟨y, r1, r', hp, hq, hrr⟩ | ⟨hp, hq⟩ | ⟨hp, y, r', hq, hst⟩
          · rw [hp, hq]; exact Rel.some hrr
          · rw [hp, hq]; exact Rel.none
          · rw [hp, hq]; exact Rel.stuck hst
    have iO : ∀ m : List UInt8, m.length ≤ N → ∀ d n, 11 ≤ n + d → Rel (PO n m) (DS n m) := fun l hN d => by
      induction d with
      | zero =>
        intro n hn
        rw [PO_eq, DS_eq, if_pos (by omega)]
        rcases iR l hN with ⟨y, r1, r', hp, hq, hrr⟩ | ⟨hp, hq⟩ | ⟨hp, y, r', hq, hst⟩
        · rw [hp, hq]
          simp only []
          rw [PL_stop (rest_ends n (by omega) r1)]
          exact Rel.some (by rw [sk_sk]; exact hrr)
        · rw [hp, hq]; exact Rel.none
        · rw [hp, hq]; exact Rel.stuck hst
      | succ d ih =>
        intro n hn
        by_cases h10 : 10 < n
        · exact ih n (by omega)
        have h1 := ih (n + 1) (by omega)
        rw [DS_eq, if_neg h10]
        have hsplit : Rel (PO n l) (match PO (n + 1) l with
            | none => none
            | some (y, r) => DL n y r) := by
          rw [PO_eq n l, PO_eq (n + 1) l]
          rcases hp : PR l with _ | ⟨x, r⟩
          · exact Rel.none
          · have hr := PR_len hp
            exact loop_split _ r (Nat.le_refl _) (fun m hm => (IH m (by omega)).2.2.1) n x
        rcases h1 with ⟨y, r1, r', hp, hq, hrr⟩ | ⟨hp, hq⟩ | ⟨hp, y, r', hq, hst⟩
        · rw [hp] at hsplit
          rw [hq]
          simp only [] at hsplit ⊢
          rw [DL_sk n y hrr] at hsplit
          exact hsplit
        · rw [hp] at hsplit
          rw [hq]
          exact hsplit
        · rw [hp] at hsplit
          rw [hq]
          have hn : PO n l = none := by
            rcases hsplit with ⟨_, _, _, _, h, _⟩ | ⟨h, _⟩ | ⟨h, _⟩
            · cases h
            · exact h
            · exact h
          rw [hn]
          simp only []
          rw [DL_eq, opD_stuck hst]
          exact Rel.stuck (by rw [sk_sk]; exact hst)
    have iC : ∀ m : List UInt8, m.length ≤ N → Rel (PC m) (DC m) := fun l hN => by
      rw [PC_eq, DC_eq]
      rcases iO l hN 11 1 (by omega) with ⟨c, r, r', hp, hq, hrr⟩ | ⟨hp, hq⟩ | ⟨hp, y, r', hq, hst⟩
      · have hr := PO_len hp
        rw [hp, hq]
        simp only []
        rw [← tk_sk hrr]
        rcases h63 : tk 63 r with _ | r1
        · exact Rel.some (by rw [sk_sk, sk_sk]; exact hrr)
        · simp only []
          have h2 := tk_len h63
          rcases (IH r1 (by omega)).1 with ⟨y, r2, r2', hp2, hq2, hrr2⟩ | ⟨hp2, hq2⟩ | ⟨hp2, y, r2', hq2, hst2⟩
          · have h3 := PE_len hp2
            rw [hp2, hq2]
            simp only []
            rw [← tk_sk hrr2]
            rcases h58 : tk 58 r2 with _ | r3
            · exact Rel.none
            · simp only []
              have h4 := tk_len h58
              rcases (IH r3 (by omega)).2.1 with ⟨n, r4, r4', hp4, hq4, hrr4⟩ | ⟨hp4, hq4⟩ | ⟨hp4, n, r4', hq4, hst4⟩
              · rw [hp4, hq4]; exact Rel.some hrr4
              · rw [hp4, hq4]; exact Rel.none
              · rw [hp4, hq4]; exact Rel.stuck hst4
          · rw [hp2, hq2]; exact Rel.none
          · rw [hp2, hq2]
            simp only []
            rw [tk_stuck hst2 (by decide) (by decide) (by decide) (by decide) (by decide)]
            exact Rel.none
      · rw [hp, hq]; exact Rel.none
      · rw [hp, hq]
        simp only []
        rw [tk_stuck hst (by decide) (by decide) (by decide) (by decide) (by decide)]
        exact Rel.stuck (by rw [sk_sk]; exact hst)
    refine ⟨?_, iC l hN, fun n => iO l hN 11 n (by omega), iR l hN⟩
    have hs := sk_len l
    rcases set_same (sk l) with hsame | ⟨hn, hne, c, r, hd, hst⟩
    · rw [PE_eq, DE_eq, ← hsame]
      rcases h : setAt (sk l) with _ | ⟨op, b⟩
      · exact iC (sk l) (by omega)
      · simp only []
        have h1 := (setAt_len h).1
        rcases (IH b (by omega)).1 with ⟨y, r1, r', hp, hq, hrr⟩ | ⟨hp, hq⟩ | ⟨hp, y, r', hq, hst⟩
        · rw [hp, hq]; exact Rel.some hrr
        · rw [hp, hq]; exact Rel.none
        · rw [hp, hq]; exact Rel.stuck hst
    · rw [PE_eq, DE_eq, hn, hd]
      simp only []
      rw [corner_pc hne hst, DE_set]
      exact Rel.none

end Go.Proofs.YtlbpeknncakfeaaGreatDoor

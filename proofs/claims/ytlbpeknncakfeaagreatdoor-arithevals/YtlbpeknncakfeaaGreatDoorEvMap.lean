/-
  Numbers of names kept in a map, and settings searched from the end: the same answers.
  What the document's 'Eval' answers, plainly, is what the program's answers.
-/
import Derived.Test.YtlbpeknncakfeaaGreatDoorTextVal
import Derived.Test.YtlbpeknncakfeaaGreatDoorSumPlain
import Derived.Test.YtlbpeknncakfeaaGreatDoorEvGram

/- Numbers of names kept in a map, and settings searched from the end: the same answers. -/
namespace Go.Proofs.YtlbpeknncakfeaaGreatDoor
open Go.RowKit Go.Maps

/-- A name's number, as the document finds it. -/
def askR (vars : List (List UInt8 × List UInt8)) (s : List UInt8) (sets : List (List UInt8 × List UInt8)) : Except Int Int := match valS (BA (findV (sets.reverse ++ vars) s)) with
  | none => .error 10
  | some n => .ok n
/-- What an expression is and sets, as the document works it out. -/
def evalR (vars : List (List UInt8 × List UInt8)) : E → List (List UInt8 × List UInt8) → Except Int (Int × List (List UInt8 × List UInt8))
  | .num n, t => .ok (n, t)
  | .name s, t => match askR vars s t with
    | .error c => .error c
    | .ok n => .ok (n, t)
  | .sign k e, t => match evalR vars e t with
    | .error c => .error c
    | .ok (a, t1) => .ok (signI k a, t1)
  | .op o x y, t => match evalR vars x t with
    | .error c => .error c
    | .ok (a, t1) => if enoughB o a then (match applyS o a 0 with
        | .error c => .error c
        | .ok n => .ok (n, t1)) else match evalR vars y t1 with
      | .error c => .error c
      | .ok (b, t2) => match applyS o a b with
        | .error c => .error c
        | .ok n => .ok (n, t2)
  | .choice c y n, t => match evalR vars c t with
    | .error c => .error c
    | .ok (a, t1) => if a != 0 then evalR vars y t1 else evalR vars n t1
  | .set s e, t => match evalR vars e t with
    | .error c => .error c
    | .ok (n, t1) => .ok (n, t1 ++ [(s, textL n)])
  | .chg s o e, t => match evalR vars e t with
    | .error c => .error c
    | .ok (b, t1) => match askR vars s t1 with
      | .error c => .error c
      | .ok a => match applyS o a b with
        | .error c => .error c
        | .ok n => .ok (n, t1)

/-- Its numbers are Go's. -/
def NumOk : E → Prop
  | .num n => I64 n
  | .name _ => True
  | .sign _ e => NumOk e
  | .op _ x y => NumOk x ∧ NumOk y
  | .choice c y n => NumOk c ∧ NumOk y ∧ NumOk n
  | .set _ e => NumOk e
  | .chg _ _ e => NumOk e

/-- The map knows what the search would find. -/
structure Knows (vars : List (List UInt8 × List UInt8)) (σ : St) : Prop where
  isMap : IsMap σ.D
  got : ∀ s, Maps.has σ.D (.string s) = true → valS (BA (findV (σ.sets.reverse ++ vars) s)) = some (intD (σ.D.atKey (.string s) (.lit (.int .i64 0))))
  not : ∀ s, Maps.has σ.D (.string s) = false → findV (σ.sets.reverse ++ vars) s = findV vars s

theorem key_ne {s t : List UInt8} (h : s ≠ t) : (Lit.string s) ≠ Lit.string t := fun e => h (by cases e; rfl)
theorem find_set (vars sets : List (List UInt8 × List UInt8)) (s v t : List UInt8) : findV ((sets ++ [(s, v)]).reverse ++ vars) t = if s = t then v else findV (sets.reverse ++ vars) t := by
  rw [List.reverse_append]
  rfl
theorem Knows.ask {vars : List (List UInt8 × List UInt8)} {σ : St} (h : Knows vars σ) (s : List UInt8) : match askS (findV vars) s σ with
    | .error c => askR vars s σ.sets = .error c
    | .ok (n, σ') => askR vars s σ.sets = .ok n ∧ σ'.sets = σ.sets ∧ Knows vars σ' ∧ I64 n := by
  unfold askS askR
  rcases Bool.eq_false_or_eq_true (Maps.has σ.D (.string s)) with hh | hh
  · rw [hh, if_pos rfl, h.got s hh]
    exact ⟨rfl, rfl, h, valS_i64 (h.got s hh)⟩
  · rw [hh, if_neg (by decide), h.not s hh]
    rcases hv : valS (BA (findV vars s)) with _ | n
    · rfl
    · refine ⟨rfl, rfl, ⟨h.isMap.put _ _, fun t ht => ?_, fun t ht => ?_⟩, valS_i64 hv⟩
      · by_cases e : t = s
        · subst e
          show valS (BA (findV (σ.sets.reverse ++ vars) t)) = some (intD ((σ.D.put (.string t) _).atKey _ _))
          rw [atKey_put_same h.isMap (keyS _), h.not t hh, hv]
          rfl
        · have ht' : Maps.has (σ.D.put (.string s) (.lit (.int .i64 n))) (.string t) = true := ht
          rw [has_put_other (key_ne e)] at ht'
          show valS (BA (findV (σ.sets.reverse ++ vars) t)) = some (intD ((σ.D.put (.string s) _).atKey _ _))
          rw [atKey_put_other (key_ne e)]
          exact h.got t ht'
      · by_cases e : t = s
        · subst e
          exact h.not t hh
        · have ht' : Maps.has (σ.D.put (.string s) (.lit (.int .i64 n))) (.string t) = false := ht
          rw [has_put_other (key_ne e)] at ht'
          exact h.not t ht'
theorem Knows.set {vars : List (List UInt8 × List UInt8)} {σ : St} (h : Knows vars σ) (s : List UInt8) {n : Int} (hn : I64 n) : Knows vars (setS s n σ) := by
  refine ⟨h.isMap.put _ _, fun t ht => ?_, fun t ht => ?_⟩
  · show valS (BA (findV ((σ.sets ++ [(s, textL n)]).reverse ++ vars) t)) = some (intD ((σ.D.put (.string s) _).atKey _ _))
    rw [find_set]
    by_cases e : s = t
    · subst e
      rw [if_pos rfl, atKey_put_same h.isMap (keyS _)]
      exact val_text hn
    · have ht' : Maps.has (σ.D.put (.string s) (.lit (.int .i64 n))) (.string t) = true := ht
      rw [has_put_other (key_ne (fun e' => e e'.symm))] at ht'
      rw [if_neg e, atKey_put_other (key_ne (fun e' => e e'.symm))]
      exact h.got t ht'
  · have ht' : Maps.has (σ.D.put (.string s) (.lit (.int .i64 n))) (.string t) = false := ht
    show findV ((σ.sets ++ [(s, textL n)]).reverse ++ vars) t = _
    rw [find_set]
    by_cases e : s = t
    · subst e
      rw [has_put_same h.isMap (keyS _)] at ht'
      cases ht'
    · rw [has_put_other (key_ne (fun e' => e e'.symm))] at ht'
      rw [if_neg e]
      exact h.not t ht'

/-- What the program works out is what the document does. -/
theorem eval_same (vars : List (List UInt8 × List UInt8)) : ∀ (x : E) (σ : St), NumOk x → Knows vars σ → match evalS (findV vars) x σ with
    | .error c => evalR vars x σ.sets = .error c
    | .ok (n, σ') => evalR vars x σ.sets = .ok (n, σ'.sets) ∧ Knows vars σ' ∧ I64 n
  | .num n, σ, hx, h => ⟨rfl, h, hx⟩
  | .name s, σ, _, h => by
    have := h.ask s
    rw [evalS, evalR]
    rcases ha : askS (findV vars) s σ with c | ⟨n, σ'⟩
    · rw [ha] at this
      simp only [] at this ⊢
      rw [this]
    · rw [ha] at this
      simp only [] at this ⊢
      obtain ⟨h1, h2, h3, h4⟩ := this
      rw [h1, h2]
      exact ⟨rfl, h3, h4⟩
  | .sign k e, σ, hx, h => by
    have := eval_same vars e σ hx h
    rw [evalS, evalR]
    rcases ha : evalS (findV vars) e σ with c | ⟨n, σ'⟩
    · rw [ha] at this
      simp only [] at this ⊢
      rw [this]
    · rw [ha] at this
      simp only [] at this ⊢
      rw [this.1]
      exact ⟨rfl, this.2.1, i64_sign this.2.2 _⟩
  | .op o x y, σ, hx, h => by
    have i1 := eval_same vars x σ hx.1 h
    rw [evalS, evalR]
    rcases ha : evalS (findV vars) x σ with c | ⟨a, σ1⟩
    · rw [ha] at i1
      simp only [] at i1 ⊢
      rw [i1]
    · rw [ha] at i1
      simp only [] at i1 ⊢
      obtain ⟨e1, k1, j1⟩ := i1
      rw [e1]
      simp only []
      by_cases he : enoughB o a = true
      · rw [if_pos he, if_pos he]
        by_cases hz : (o.div && (0 : Int) == 0) = true
        · have hap : applyS o a 0 = .error 13 := by unfold applyS; rw [if_pos hz]
          rw [hap]
          rfl
        · have hap : applyS o a 0 = .ok (doI o.fn a 0) := by unfold applyS; rw [if_neg hz]
          rw [hap]
          exact ⟨rfl, k1, i64_do j1 _ _⟩
      · rw [if_neg he, if_neg he]
        have i2 := eval_same vars y σ1 hx.2 k1
        rcases hb : evalS (findV vars) y σ1 with c | ⟨b, σ2⟩
        · rw [hb] at i2
          simp only [] at i2 ⊢
          rw [i2]
        · rw [hb] at i2
          simp only [] at i2 ⊢
          rw [i2.1]
          simp only []
          by_cases hz : (o.div && b == 0) = true
          · have hap : applyS o a b = .error 13 := by unfold applyS; rw [if_pos hz]
            rw [hap]
            rfl
          · have hap : applyS o a b = .ok (doI o.fn a b) := by unfold applyS; rw [if_neg hz]
            rw [hap]
            exact ⟨rfl, i2.2.1, i64_do j1 _ _⟩
  | .choice c y n, σ, hx, h => by
    have i1 := eval_same vars c σ hx.1 h
    rw [evalS, evalR]
    rcases ha : evalS (findV vars) c σ with e | ⟨a, σ1⟩
    · rw [ha] at i1
      simp only [] at i1 ⊢
      rw [i1]
    · rw [ha] at i1
      simp only [] at i1 ⊢
      obtain ⟨e1, k1, j1⟩ := i1
      rw [e1]
      simp only []
      by_cases he : (a != 0) = true
      · rw [if_pos he, if_pos he]
        exact eval_same vars y σ1 hx.2.1 k1
      · rw [if_neg he, if_neg he]
        exact eval_same vars n σ1 hx.2.2 k1
  | .set s e, σ, hx, h => by
    have := eval_same vars e σ hx h
    rw [evalS, evalR]
    rcases ha : evalS (findV vars) e σ with c | ⟨n, σ'⟩
    · rw [ha] at this
      simp only [] at this ⊢
      rw [this]
    · rw [ha] at this
      simp only [] at this ⊢
      rw [this.1]
      exact ⟨rfl, this.2.1.set s this.2.2, this.2.2⟩
  | .chg s o e, σ, hx, h => by
    have i1 := eval_same vars e σ hx h
    rw [evalS, evalR]
    rcases ha : evalS (findV vars) e σ with c | ⟨b, σ1⟩
    · rw [ha] at i1
      simp only [] at i1 ⊢
      rw [i1]
    · rw [ha] at i1
      simp only [] at i1 ⊢
      obtain ⟨e1, k1, j1⟩ := i1
      rw [e1]
      simp only []
      have i2 := k1.ask s
      rcases hb : askS (findV vars) s σ1 with c | ⟨a, σ2⟩
      · rw [hb] at i2
        simp only [] at i2 ⊢
        rw [i2]
      · rw [hb] at i2
        simp only [] at i2 ⊢
        obtain ⟨h1, h2, h3, h4⟩ := i2
        rw [h1]
        simp only []
        by_cases hz : (o.div && b == 0) = true
        · have hap : applyS o a b = .error 13 := by unfold applyS; rw [if_pos hz]
          rw [hap]
          rfl
        · have hap : applyS o a b = .ok (doI o.fn a b) := by unfold applyS; rw [if_neg hz]
          rw [hap]
          exact ⟨by rw [← h2], h3, i64_do h4 _ _⟩

end Go.Proofs.YtlbpeknncakfeaaGreatDoor

/- What the document's 'Eval' answers, plainly, is what the program's answers. -/
namespace Go.Proofs.YtlbpeknncakfeaaGreatDoor
open Go.RowKit Go.Maps
attribute [local irreducible] findOp findSign

theorem num_word {l r : List UInt8} {x : E} (h : pWord l = some (x, r)) : NumOk x := by
  unfold pWord at h
  split at h
  · cases h; exact trivial
  · split at h
    · next n hn =>
      cases h
      obtain ⟨h1, h2⟩ := atMost_some hn
      have h3 := numW_nonneg h1
      exact ⟨by omega, by omega⟩
    · cases h
theorem num_mkSet {nm op : List UInt8} {x : E} (h : NumOk x) : NumOk (mkSet nm op x) := by
  unfold mkSet
  split <;> exact h

theorem num_op {o : Opr} {x y : E} (hx : NumOk x) (hy : NumOk y) : NumOk (.op o x y) := ⟨hx, hy⟩
theorem p_num : ∀ k : Nat, (∀ l x r, pExpr k l = some (x, r) → NumOk x) ∧ (∀ l x r, pChoice k l = some (x, r) → NumOk x) ∧ (∀ n l x r, pOp k n l = some (x, r) → NumOk x) ∧
    (∀ n y l x r, NumOk y → pLoop k n y l = some (x, r) → NumOk x) ∧ (∀ l x r, pOperand k l = some (x, r) → NumOk x)
  | 0 => by
    refine ⟨fun l x r h => ?_, fun l x r h => ?_, fun n l x r h => ?_, fun n y l x r _ h => ?_, fun l x r h => ?_⟩
    · rw [pExpr] at h; cases h
    · rw [pChoice] at h; cases h
    · rw [pOp] at h; cases h
    · rw [pLoop] at h; cases h
    · rw [pOperand] at h; cases h
  | k + 1 => by
    obtain ⟨iE, iC, iO, iL, iR⟩ := p_num k
    refine ⟨fun l x r h => ?_, fun l x r h => ?_, fun n l x r h => ?_, fun n y l x r hy h => ?_, fun l x r h => ?_⟩
    · rw [pExpr] at h
      split at h
      · exact iC _ _ _ h
      · split at h
        · cases h
        · next x' r' hx =>
          have h2 := iE _ _ _ hx
          cases h
          exact num_mkSet h2
    · rw [pChoice] at h
      split at h
      · cases h
      · next c r0 hc =>
        have h1 := iO _ _ _ _ hc
        split at h
        · cases h; exact h1
        · split at h
          · cases h
          · next y r2 hy =>
            have h3 := iE _ _ _ hy
            split at h
            · cases h
            · split at h
              · cases h
              · next n r4 hn =>
                have h5 := iC _ _ _ hn
                cases h
                exact ⟨h1, h3, h5⟩
    · rw [pOp] at h
      split at h
      · cases h
      · next x' r' hx => exact iL _ _ _ _ _ (iR _ _ _ hx) h
    · rw [pLoop] at h
      split at h
      · cases h; exact hy
      · split at h
        · cases h; exact hy
        · split at h
          · cases h
          · next y' r' hy' => exact iL n _ _ x r (num_op hy (iO _ _ _ _ hy')) h
    · rw [pOperand] at h
      split at h
      · cases h
      · split at h
        · split at h
          · cases h
          · next x' r' hx =>
            have h1 := iR _ _ _ hx
            cases h
            exact h1
        · split at h
          · split at h
            · cases h
            · next x' r1 hx =>
              have h1 := iE _ _ _ hx
              split at h
              · cases h
              · cases h; exact h1
          · exact num_word h

theorem knows_none (vars : List (List UInt8 × List UInt8)) : Knows vars ⟨.map [], []⟩ := ⟨isMap_empty, fun _ h => (by cases h), fun _ _ => rfl⟩

/-- What the document answers. -/
def docL (vars : List (List UInt8 × List UInt8)) (l : List UInt8) : Except Int (Int × List (List UInt8 × List UInt8)) :=
  if 4096 < l.length then .error 3
  else if (trimT (BA l)).size = 0 then .ok (0, [])
  else match DE l with
    | none => .error 10
    | some (x, r) => if (sk r).isEmpty then evalR vars x [] else .error 10
theorem evalL_doc (vars : List (List UInt8 × List UInt8)) (l : List UInt8) : evalL vars l = docL vars l := by
  unfold evalL docL
  by_cases h1 : 4096 < l.length
  · rw [if_pos h1, if_pos h1]
  rw [if_neg h1, if_neg h1]
  by_cases h2 : (trimT (BA l)).size = 0
  · rw [if_pos h2, if_pos h2]
  rw [if_neg h2, if_neg h2, readS_fuel l (Nat.le_refl _)]
  show (match (match PE l with
    | none => none
    | some (x, r) => if (sk r).isEmpty then some x else none) with
    | none => _
    | some x => _) = _
  rcases (grammars l.length l (Nat.le_refl _)).1 with ⟨x, r, r', hp, hq, hrr⟩ | ⟨hp, hq⟩ | ⟨hp, x, r', hq, hst⟩
  · rw [hp, hq]
    simp only []
    rw [hrr]
    by_cases he : (sk r').isEmpty = true
    · rw [if_pos he, if_pos he]
      simp only []
      have hk := eval_same vars x ⟨.map [], []⟩ ((p_num _).1 _ _ _ hp) (knows_none vars)
      rcases hv : evalS (findV vars) x ⟨.map [], []⟩ with c | ⟨n, σ⟩
      · rw [hv] at hk
        exact hk.symm
      · rw [hv] at hk
        exact hk.1.symm
    · rw [if_neg he, if_neg he]
  · rw [hp, hq]
  · rw [hp, hq]
    simp only []
    obtain ⟨c, t, hm, _⟩ := stuck_cases hst
    rw [hm]
    rfl

end Go.Proofs.YtlbpeknncakfeaaGreatDoor

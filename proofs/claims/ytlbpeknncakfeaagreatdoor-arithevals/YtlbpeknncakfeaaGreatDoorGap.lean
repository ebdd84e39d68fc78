/-
  What stands behind an expression, a gap or a closing bracket, turns nothing of how it is read; nor does a gap ahead; nor does more fuel.
-/
import Derived.Test.YtlbpeknncakfeaaGreatDoorRead
namespace Go.Proofs.YtlbpeknncakfeaaGreatDoor
open Go.RowKit Go.Maps
attribute [local irreducible] findOp findSign

theorem lookR_none {α : Type} {s : List UInt8} : ∀ {L : List (ByteArray × α)}, (∀ p ∈ L, p.1.data.toList ≠ s) → lookR s L = none
  | [], _ => rfl
  | p :: L, h => by
    rw [lookR_cons, lookR_none (fun q hq => h q (List.mem_cons_of_mem _ hq))]
    simp only []
    rw [if_neg (h p (by simp))]
theorem two_end (d c : UInt8) (h : c ≠ 124 ∧ c ≠ 38 ∧ c ≠ 61 ∧ c ≠ 60 ∧ c ≠ 62) : findOp [d, c] = none := by
  unfold findOp
  apply lookR_none
  intro p hp e
  have hall : ∀ q ∈ opsT, q.1.data.toList.length = 2 → q.1.data.toList[1]? = some 124 ∨ q.1.data.toList[1]? = some 38 ∨ q.1.data.toList[1]? = some 61 ∨ q.1.data.toList[1]? = some 60 ∨ q.1.data.toList[1]? = some 62 := by decide
  have := hall p hp (by rw [e]; rfl)
  rw [e] at this
  simp at this
  obtain ⟨h1, h2, h3, h4, h5⟩ := h
  rcases this with h | h | h | h | h <;> contradiction

/-- What stands behind: it begins with a byte that ends whatever is ahead of it, and is a gap whole, or no gap at its front. -/
structure Tail (u : List UInt8) : Prop where
  head : ∃ c t, u = c :: t ∧ namB (c.toNat : Int) = false ∧ c ≠ 61 ∧ c ≠ 43 ∧ c ≠ 45 ∧ c ≠ 42 ∧ c ≠ 47 ∧ c ≠ 37 ∧ c ≠ 63 ∧ c ≠ 58 ∧ (∀ d, findOp [d, c] = none)
  gap : sk u = [] ∨ (sk u = u ∧ opAt u = none)
theorem tail32 : Tail [32] := ⟨⟨32, [], rfl, by decide, by decide, by decide, by decide, by decide, by decide, by decide, by decide, by decide, fun d => two_end d 32 (by decide)⟩, .inl (by decide)⟩
theorem tail41 : Tail [41, 10] := ⟨⟨41, [10], rfl, by decide, by decide, by decide, by decide, by decide, by decide, by decide, by decide, by decide, fun d => two_end d 41 (by decide)⟩, .inr ⟨by decide, by kernel_rfl⟩⟩

theorem sk_cons_gap {c : UInt8} (l : List UInt8) (h : gaps.contains c = true) : sk (c :: l) = sk l := by rw [sk_eq, sk_eq, List.dropWhile_cons, if_pos h]
theorem sk_append (r u : List UInt8) : sk (r ++ u) = if sk r = [] then sk u else sk r ++ u := by
  rw [sk_eq, sk_eq, sk_eq]
  induction r with
  | nil => simp
  | cons c r ih =>
    rw [List.cons_append, List.dropWhile_cons, List.dropWhile_cons]
    by_cases h : gaps.contains c = true
    · rw [if_pos h, if_pos h]; exact ih
    · rw [if_neg h, if_neg h]; simp
theorem sk_app_nil {r : List UInt8} (u : List UInt8) (h : sk r = []) : sk (r ++ u) = sk u := by rw [sk_append, if_pos h]
theorem sk_app_ne {r : List UInt8} (u : List UInt8) (h : sk r ≠ []) : sk (r ++ u) = sk r ++ u := by rw [sk_append, if_neg h]
theorem sk_sk_app (r u : List UInt8) : sk (sk r ++ u) = sk (r ++ u) := by
  by_cases h : sk r = []
  · rw [sk_app_nil u h, h]; rfl
  · rw [sk_app_ne u h, sk_app_ne u (by rw [sk_sk]; exact h), sk_sk]

theorem spanN_app {p : Int → Bool} {c : UInt8} {t : List UInt8} (h : p (c.toNat : Int) = false) : ∀ l : List UInt8, spanN p (l ++ c :: t) = spanN p l
  | [] => by
    rw [List.nil_append, spanN_cons, h]; rfl
  | d :: l => by
    rw [List.cons_append, spanN_cons, spanN_cons, spanN_app h l]
theorem frontN_app {c : UInt8} {t : List UInt8} (h : namB (c.toNat : Int) = false) {l : List UInt8} (hl : l ≠ []) : frontN (l ++ c :: t) = frontN l := by
  cases l with
  | nil => exact absurd rfl hl
  | cons d l =>
    show (if alpB (d.toNat : Int) = true then spanN namB (d :: (l ++ c :: t)) else 0) = (if alpB (d.toNat : Int) = true then spanN namB (d :: l) else 0)
    rw [← List.cons_append, spanN_app h]
theorem namB_alp {c : Int} (h : namB c = false) : alpB c = false := by
  unfold namB at h
  cases ha : alpB c with
  | false => rfl
  | true => rw [ha] at h; simp at h
theorem frontN_tail {c : UInt8} {t : List UInt8} (h : namB (c.toNat : Int) = false) : frontN (c :: t) = 0 := by
  show (if alpB (c.toNat : Int) = true then spanN namB (c :: t) else 0) = 0
  rw [namB_alp h]; rfl

theorem pWord_app {u : List UInt8} (hu : Tail u) (m : List UInt8) : pWord (m ++ u) = (pWord m).map fun p => (p.1, p.2 ++ u) := by
  obtain ⟨c, t, rfl, hn, _⟩ := hu.head
  have h1 : spanN namB (m ++ c :: t) = spanN namB m := spanN_app hn m
  have hle := spanN_le namB m
  have h2 : wordL (m ++ c :: t) = wordL m := by
    unfold wordL
    rw [h1, List.take_append_of_le_length hle]
  have h3 : (m ++ c :: t).drop (spanN namB (m ++ c :: t)) = m.drop (spanN namB m) ++ c :: t := by
    rw [h1, List.drop_append_of_le_length hle]
  unfold pWord
  rw [h2, h3]
  split
  · rfl
  · split <;> rfl

theorem opAt_app {u : List UInt8} (hu : Tail u) {m : List UInt8} (hm : m ≠ []) : opAt (m ++ u) = opAt m := by
  obtain ⟨c, t, rfl, _, _, _, _, _, _, _, _, _, h2⟩ := hu.head
  match m, hm with
  | [d], _ =>
    show opUpTo ([d] ++ c :: t) (min 2 ([d] ++ c :: t).length) = opUpTo [d] (min 2 ([d] : List UInt8).length)
    rw [show min 2 ([d] ++ c :: t).length = 2 by simp, show min 2 ([d] : List UInt8).length = 1 by simp]
    rw [opUpTo_succ, show ([d] ++ c :: t).take (1 + 1) = [d, c] from rfl, h2 d]
    simp only []
    rw [opUpTo_succ, opUpTo_succ]
    rfl
  | d :: e :: m, _ =>
    show opUpTo (d :: e :: m ++ c :: t) (min 2 (d :: e :: m ++ c :: t).length) = opUpTo (d :: e :: m) (min 2 (d :: e :: m).length)
    rw [show min 2 (d :: e :: m ++ c :: t).length = 2 by simp, show min 2 (d :: e :: m).length = 2 by simp]
    rfl

theorem signAt_app {u : List UInt8} (hu : Tail u) (op : List UInt8) (ho : op ∈ setOps) (m : List UInt8) (hm : m ≠ []) : signAt op (m ++ u) = (signAt op m).map (· ++ u) := by
  obtain ⟨c, t, rfl, _, h61, _⟩ := hu.head
  have hb : ∀ q : List UInt8, Lib.hasPrefix (q ++ c :: t) [61] = Lib.hasPrefix q [61] := by
    intro q
    cases q with
    | nil =>
      show ((61 : UInt8) == c && ([] : List UInt8).isPrefixOf t) = false
      rw [show ((61 : UInt8) == c) = false from beq_false_of_ne (Ne.symm h61)]; rfl
    | cons d q => rfl
  have key : ∀ p : List UInt8, (p = [61] ∨ ∃ d, p = [d, 61]) → Lib.hasPrefix (m ++ c :: t) p = Lib.hasPrefix m p ∧ (Lib.hasPrefix m p = true → Lib.trimPrefix (m ++ c :: t) p = Lib.trimPrefix m p ++ c :: t) := by
    rintro p (rfl | ⟨d, rfl⟩)
    · match m, hm with
      | e :: m, _ =>
        refine ⟨rfl, fun h => ?_⟩
        unfold Lib.trimPrefix
        rw [h, show Lib.hasPrefix (e :: m ++ c :: t) [61] = true from h]
        rfl
    · match m, hm with
      | [e], _ =>
        have h1 : Lib.hasPrefix ([e] ++ c :: t) [d, 61] = false := by
          show (d == e && ((61 : UInt8) == c && ([] : List UInt8).isPrefixOf t)) = false
          rw [show ((61 : UInt8) == c) = false from beq_false_of_ne (Ne.symm h61)]; simp
        have h2 : Lib.hasPrefix [e] [d, 61] = false := by
          show (d == e && false) = false
          simp
        exact ⟨by rw [h1, h2], fun h => by rw [h2] at h; cases h⟩
      | e :: e2 :: m, _ =>
        refine ⟨rfl, fun h => ?_⟩
        unfold Lib.trimPrefix
        rw [h, show Lib.hasPrefix (e :: e2 :: m ++ c :: t) [d, 61] = true from h]
        rfl
  have hp : op ++ [61] = [61] ∨ ∃ d, op ++ [61] = [d, 61] := by
    unfold setOps at ho
    simp only [List.mem_cons, List.not_mem_nil, or_false] at ho
    rcases ho with rfl | rfl | rfl | rfl | rfl | rfl
    · exact .inl rfl
    all_goals exact .inr ⟨_, rfl⟩
  obtain ⟨k1, k2⟩ := key _ hp
  unfold signAt
  rw [k1]
  rcases Bool.eq_false_or_eq_true (Lib.hasPrefix m (op ++ [61])) with h | h
  · rw [h, k2 h, hb]
    split <;> rfl
  · rw [h]; rfl
theorem signAt_tail {u : List UInt8} (hu : Tail u) (op : List UInt8) (ho : op ∈ setOps) : signAt op u = none := by
  obtain ⟨c, t, rfl, _, h61, h43, h45, h42, h47, h37, _⟩ := hu.head
  apply signAt_no1
  unfold setOps at ho
  simp only [List.mem_cons, List.not_mem_nil, or_false] at ho
  have hx : ∀ (d : UInt8) (p : List UInt8), c ≠ d → Lib.hasPrefix (c :: t) (d :: p) = false := fun d p h => by
    show (d == c && p.isPrefixOf t) = false
    rw [show (d == c) = false from beq_false_of_ne (Ne.symm h)]; rfl
  rcases ho with rfl | rfl | rfl | rfl | rfl | rfl
  · exact hx _ _ h61
  · exact hx _ _ h43
  · exact hx _ _ h45
  · exact hx _ _ h42
  · exact hx _ _ h47
  · exact hx _ _ h37
theorem signIn_app {u : List UInt8} (hu : Tail u) {m : List UInt8} (hm : m ≠ []) : ∀ L : List (List UInt8), (∀ op ∈ L, op ∈ setOps) → signIn (m ++ u) L = (signIn m L).map fun p => (p.1, p.2 ++ u)
  | [], _ => rfl
  | op :: L, h => by
    have h1 := signAt_app hu op (h op (by simp)) m hm
    show (match signAt op (m ++ u) with | some b => some (op, b) | none => signIn (m ++ u) L) = (match signAt op m with | some b => some (op, b) | none => signIn m L).map _
    rw [h1, signIn_app hu hm L (fun q hq => h q (List.mem_cons_of_mem _ hq))]
    cases signAt op m <;> rfl
theorem signIn_none {m : List UInt8} : ∀ L : List (List UInt8), (∀ op ∈ L, signAt op m = none) → signIn m L = none
  | [], _ => rfl
  | op :: L, h => by rw [signIn_no (h op (by simp)), signIn_none L (fun q hq => h q (List.mem_cons_of_mem _ hq))]
theorem setSign_app {u : List UInt8} (hu : Tail u) (q : List UInt8) : setSign (q ++ u) = (setSign q).map fun p => (p.1, p.2 ++ u) := by
  unfold setSign
  by_cases h : sk q = []
  · rw [sk_app_nil u h, h]
    have h0 : signIn [] setOps = none := by decide
    rw [h0]
    rcases hu.gap with hg | ⟨hg, _⟩
    · rw [hg, h0]; rfl
    · rw [hg, signIn_none _ (fun op ho => signAt_tail hu op ho)]; rfl
  · rw [sk_app_ne u h, signIn_app hu h _ (fun _ h => h)]
theorem setAt_app {u : List UInt8} (hu : Tail u) {m : List UInt8} (hm : m ≠ []) : setAt (m ++ u) = (setAt m).map fun p => (p.1, p.2 ++ u) := by
  obtain ⟨c, t, hct, hn, _⟩ := hu.head
  have hf : frontN (m ++ u) = frontN m := by rw [hct]; exact frontN_app hn hm
  have hle := frontN_le m
  have hnm : nameOf (m ++ u) = nameOf m := by unfold nameOf; rw [hf, List.take_append_of_le_length hle]
  unfold setAt
  rw [hnm, hf, List.drop_append_of_le_length hle, setSign_app hu]
  split <;> rfl
theorem nameOf_app {u : List UInt8} (hu : Tail u) {m : List UInt8} (hm : m ≠ []) : nameOf (m ++ u) = nameOf m := by
  obtain ⟨c, t, hct, hn, _⟩ := hu.head
  have hf : frontN (m ++ u) = frontN m := by rw [hct]; exact frontN_app hn hm
  unfold nameOf; rw [hf, List.take_append_of_le_length (frontN_le m)]
theorem setAt_tail {u : List UInt8} (hu : Tail u) : setAt (sk u) = none := by
  rcases hu.gap with hg | ⟨hg, _⟩
  · rw [hg]; rfl
  · obtain ⟨c, t, hct, hn, _⟩ := hu.head
    rw [hg, hct]
    unfold setAt nameOf
    rw [frontN_tail hn]
    rfl

theorem tk_app {u : List UInt8} {d : UInt8} {r r' q : List UInt8} (hr : sk r' = sk (r ++ u)) (h : tk d r = some q) : tk d r' = some (q ++ u) := by
  obtain ⟨h1, h2⟩ := tk_some h
  cases hs : sk r with
  | nil => rw [hs] at h1; cases h1
  | cons e m =>
    rw [hs] at h1 h2
    have hne : sk r ≠ [] := by rw [hs]; simp
    rw [sk_app_ne u hne, hs] at hr
    unfold tk
    rw [hr]
    have h3 : Lib.hasPrefix (e :: m ++ u) [d] = true := h1
    rw [h3, if_pos rfl]
    unfold Lib.trimPrefix at h2 ⊢
    rw [h3, if_pos rfl]
    rw [h1, if_pos rfl] at h2
    rw [← h2]
    rfl
theorem tk_app_none {u : List UInt8} (hu : Tail u) {d : UInt8} {r r' : List UInt8} (hr : sk r' = sk (r ++ u)) (h : tk d r = none) (hd : sk u = [] ∨ d = 63 ∨ d = 58) : tk d r' = none := by
  obtain ⟨h1, _⟩ := tk_none h
  unfold tk
  cases hs : sk r with
  | nil =>
    rw [sk_app_nil u hs] at hr
    rcases hu.gap with hg | ⟨hg, _⟩
    · rw [hr, hg]; rfl
    · obtain ⟨c, t, hct, _, _, _, _, _, _, _, h63, h58, _⟩ := hu.head
      rw [hr, hg, hct]
      have hcd : c ≠ d := by
        rcases hd with hd | rfl | rfl
        · rw [hg, hct] at hd; cases hd
        · exact h63
        · exact h58
      have h3 : Lib.hasPrefix (c :: t) [d] = false := by
        show (d == c && ([] : List UInt8).isPrefixOf t) = false
        rw [show (d == c) = false from beq_false_of_ne (Ne.symm hcd)]; rfl
      rw [h3]; rfl
  | cons e m =>
    rw [hs] at h1
    have hne : sk r ≠ [] := by rw [hs]; simp
    rw [sk_app_ne u hne, hs] at hr
    rw [hr, show Lib.hasPrefix (e :: m ++ u) [d] = false from h1]
    rfl

end Go.Proofs.YtlbpeknncakfeaaGreatDoor

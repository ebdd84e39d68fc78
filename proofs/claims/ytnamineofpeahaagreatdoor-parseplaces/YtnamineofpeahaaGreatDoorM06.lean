/-
  Things end where they end, whatever stands behind them.
  A thing ends where it ends, whatever stands behind it.
  A text in place: the lexer's 'takeUp'.
-/
import Derived.Test.YtnamineofpeahaaGreatDoorM01
import Derived.Test.YtnamineofpeahaaGreatDoorM05

/- Things end where they end, whatever stands behind them. -/
namespace Go.Proofs.YtnamineofpeahaaGreatDoor

/-- z may stand behind a thing in the place of r. -/
def Comp (r z : List UInt8) : Prop := (r = [] → z = []) ∧ (r.head? ≠ some 123 → z.head? ≠ some 123) ∧ (r.head? ≠ some 40 → z.head? ≠ some 40)
theorem Comp.app {t r z : List UInt8} (ht : t ≠ []) : Comp (t ++ r) (t ++ z) := by
 cases t with
 | nil => exact absurd rfl ht
 | cons c t => exact ⟨fun h => by simp at h, fun h => h, fun h => h⟩

theorem app_self {t r : List UInt8} (h : t ++ r = r) : t = [] := by
 have := congrArg List.length h
 rw [List.length_append] at this
 exact List.eq_nil_of_length_eq_zero (by omega)
theorem dw_app (p : UInt8 → Bool) (x : UInt8) (r z : List UInt8) : ∀ t : List UInt8, (t ++ r).dropWhile p = x :: r → (t ++ z).dropWhile p = x :: z
 | [], h => by
   have := dropWhile_len p r
   rw [List.nil_append] at h
   rw [h] at this
   simp at this
   omega
 | a :: t, h => by
   rw [List.cons_append, List.dropWhile_cons] at h ⊢
   by_cases ha : p a = true
   ·rw [if_pos ha] at h ⊢
    exact dw_app p x r z t h
   ·rw [if_neg ha] at h ⊢
    injection h with h1 h2
    rw [h1, app_self h2]
    rfl

/-- What is left behind a thing is an end of the text. -/
theorem dw_suf (p : UInt8 → Bool) (l : List UInt8) : ∃ t, l = t ++ l.dropWhile p := ⟨l.takeWhile p, List.takeWhile_append_dropWhile.symm⟩
theorem suf_all : ∀ f : Nat, (∀ l wh d r, thg f l wh d = .ok r → ∃ t, l = t ++ r) ∧ (∀ l fr e wh d r, cls f l fr e wh d = .ok r → ∃ t, l = t ++ r) ∧ (∀ l fr e wh d r, lop f l fr e wh d = .ok r → ∃ t, l = t ++ r)
 | 0 => ⟨fun l wh d r h => by rw [thg] at h; injection h with h; exact ⟨[], h⟩, fun l fr e wh d r h => by rw [cls] at h; injection h with h; exact ⟨[], h⟩, fun l fr e wh d r h => by rw [lop] at h; injection h with h; exact ⟨[], h⟩⟩
 | f + 1 => by
   obtain ⟨iT, iC, iL⟩ := suf_all f
   refine ⟨fun l wh d r h => ?_, fun l fr e wh d r h => ?_, fun l fr e wh d r h => ?_⟩
   ·cases l with
    | nil => rw [thg] at h; injection h with h; exact ⟨[], h⟩
    | cons c l =>
      have hok : ∀ x, Rs.ok x = .ok r → (∃ t, l = t ++ x) → ∃ t, c :: l = t ++ r := by
       intro x hx ⟨t, ht⟩
       injection hx with hx
       subst hx
       exact ⟨c :: t, by rw [List.cons_append, ← ht]⟩
      have hd1 : ∃ t, l = t ++ l.drop 1 := ⟨l.take 1, (List.take_append_drop 1 l).symm⟩
      have hcl : ∀ m fr e wh, cls f m fr e wh d = .ok r → (∃ t, l = t ++ m) → ∃ t, c :: l = t ++ r := by
       intro m fr e wh h ⟨t, ht⟩
       obtain ⟨u, hu⟩ := iC _ _ _ _ _ _ h
       exact ⟨c :: t ++ u, by rw [ht, hu]; simp⟩
      rw [thg_succ] at h
      split at h
      ·exact hok _ h hd1
      split at h
      ·split at h
       ·exact hok _ h ⟨[], rfl⟩
       ·exact hcl _ _ _ _ h ⟨[], rfl⟩
      split at h
      ·split at h
       ·exact hok _ h ⟨[], rfl⟩
       ·split at h
        ·cases h
        ·next x r' hx =>
         obtain ⟨t, ht⟩ := dw_suf (fun x => x != 39) l
         exact hok _ h ⟨t ++ [x], by rw [hx] at ht; rw [ht]; simp⟩
      split at h
      ·split at h
       ·exact hcl _ _ _ _ h hd1
       ·split at h
        ·exact hcl _ _ _ _ h hd1
        ·exact hok _ h ⟨[], rfl⟩
      split at h
      ·split at h
       ·exact hcl _ _ _ _ h ⟨[], rfl⟩
       ·exact hok _ h ⟨[], rfl⟩
      split at h
      ·cases h
      ·exact hok _ h ⟨[], rfl⟩
   ·rw [cls_succ] at h
    split at h
    ·cases h
    ·exact iL _ _ _ _ _ _ h
   ·cases l with
    | nil => rw [lop_nil] at h; cases h
    | cons c l =>
      rw [lop_succ] at h
      split at h
      ·injection h with h
       subst h
       exact ⟨[c], rfl⟩
      ·split at h
       ·cases h
       ·next l' hl =>
        obtain ⟨t, ht⟩ := iT _ _ _ _ hl
        obtain ⟨u, hu⟩ := iL _ _ _ _ _ _ h
        exact ⟨t ++ u, by rw [ht, hu]; simp⟩
theorem thg_suf {f : Nat} {l r : List UInt8} {wh d : Nat} (h : thg f l wh d = .ok r) : ∃ t, l = t ++ r := (suf_all f).1 l wh d r h
theorem lop_suf {f : Nat} {l fr r : List UInt8} {e : UInt8} {wh d : Nat} (h : lop f l fr e wh d = .ok r) : ∃ t, l = t ++ r := (suf_all f).2.2 l fr e wh d r h
/-- A thing, and what is closed, takes a byte at least. -/
theorem thg_lt {f : Nat} {c : UInt8} {l r : List UInt8} {wh d : Nat} (h : thg (f + 1) (c :: l) wh d = .ok r) : r.length ≤ l.length := by
 have := thg_len f c l wh d
 rw [h] at this
 exact this
theorem lop_lt : ∀ (f : Nat) {l fr r : List UInt8} {e : UInt8} {wh d : Nat}, lop (f + 1) l fr e wh d = .ok r → 3 * l.length + 4 ≤ f + 1 → r.length < l.length := by
 intro f l fr r e wh d h hf
 cases l with
 | nil => rw [lop_nil] at h; cases h
 | cons c l =>
   rw [lop_succ] at h
   split at h
   ·injection h with h
    subst h
    simp
   ·split at h
    ·cases h
    ·next l' hl =>
     simp at hf
     obtain ⟨g, rfl⟩ : ∃ g, f = g + 1 := ⟨f - 1, by omega⟩
     have h1 := thg_lt hl
     obtain ⟨u, hu⟩ := lop_suf h
     have h2 := congrArg List.length hu
     rw [List.length_append] at h2
     simp
     omega

/-- Things, and what is closed, stand as they are with anything behind them. -/
theorem loc_all : ∀ f : Nat,
 (∀ t r z wh d g, thg f (t ++ r) wh d = .ok r → t ≠ [] → 3 * (t ++ r).length + 3 ≤ f → 3 * (t ++ z).length + 3 ≤ g → Comp r z → thg g (t ++ z) wh d = .ok z)
 ∧ (∀ t r z fr fr' e wh d g, lop f (t ++ r) fr e wh d = .ok r → 3 * (t ++ r).length + 4 ≤ f → 3 * (t ++ z).length + 4 ≤ g → lop g (t ++ z) fr' e wh d = .ok z)
 | 0 => ⟨fun t r z wh d g _ _ h => by omega, fun t r z fr fr' e wh d g _ h => by omega⟩
 | f + 1 => by
   have iT := (loc_all f).1
   have iL := (loc_all f).2
   have iL2 : ∀ k, k + 1 = f → (∀ t r z fr fr' e wh d g, lop k (t ++ r) fr e wh d = .ok r → 3 * (t ++ r).length + 4 ≤ k → 3 * (t ++ z).length + 4 ≤ g → lop g (t ++ z) fr' e wh d = .ok z) := fun k _ => (loc_all k).2
   refine ⟨fun t r z wh d g h ht hf hg hc => ?_, fun t r z fr fr' e wh d g h hf hg => ?_⟩
   ·cases t with
    | nil => exact absurd rfl ht
    | cons c t =>
      rw [List.cons_append] at h hf hg ⊢
      simp only [List.length_cons, List.length_append] at hf hg
      obtain ⟨g, rfl⟩ : ∃ k, g = k + 1 := ⟨g - 1, by omega⟩
      have hcl : ∀ u fr fr' e wh, cls f (u ++ r) fr e wh d = .ok r → u.length ≤ t.length → cls g (u ++ z) fr' e wh d = .ok z := by
       intro u fr fr' e wh h hu
       obtain ⟨k, rfl⟩ : ∃ k, f = k + 1 := ⟨f - 1, by omega⟩
       obtain ⟨m, rfl⟩ : ∃ k, g = k + 1 := ⟨g - 1, by omega⟩
       rw [cls_succ] at h ⊢
       by_cases hd : 40 ≤ d
       ·rw [if_pos hd] at h; cases h
       ·rw [if_neg hd] at h ⊢
        exact iL2 k rfl u r z fr fr' e wh (d + 1) m h (by rw [List.length_append]; omega) (by rw [List.length_append]; omega)
      have hok : Rs.ok (t ++ r) = .ok r → t = [] := fun h => by injection h with h; exact app_self h
      rw [thg_succ] at h ⊢
      by_cases h1 : c = 92
      ·rw [if_pos h1] at h ⊢
       injection h with h
       have hl := congrArg List.length h
       rw [List.length_drop, List.length_append] at hl
       match t, h, hl with
       | [], h, hl =>
         simp at hl
         have hr : r = [] := List.eq_nil_of_length_eq_zero (by omega)
         rw [hc.1 hr]
         rfl
       | [x], h, hl => rfl
       | x :: y :: t, h, hl => simp at hl
      rw [if_neg h1] at h ⊢
      by_cases h2 : c = 34
      ·rw [if_pos h2] at h ⊢
       by_cases hw : wh = 1
       ·rw [if_pos hw] at h ⊢; rw [hok h]; rfl
       ·rw [if_neg hw] at h ⊢; exact hcl t _ _ _ _ h (Nat.le_refl _)
      rw [if_neg h2] at h ⊢
      by_cases h3 : c = 39
      ·rw [if_pos h3] at h ⊢
       by_cases hw : quot wh = true
       ·rw [if_pos hw] at h ⊢; rw [hok h]; rfl
       ·rw [if_neg hw] at h ⊢
        cases hx : (t ++ r).dropWhile (fun x => x != 39) with
        | nil => rw [hx] at h; cases h
        | cons x r' =>
          rw [hx] at h
          injection h with h
          subst h
          rw [dw_app _ x r' z t hx]
      rw [if_neg h3] at h ⊢
      by_cases h4 : c = 36
      ·rw [if_pos h4] at h ⊢
       cases t with
       | nil =>
         have hno : ∀ fr e wh, cls f (r.drop 1) fr e wh d = .ok r → r.length = 0 := by
          intro fr e wh h
          obtain ⟨u, hu⟩ := (suf_all f).2.1 _ _ _ _ _ _ h
          have := congrArg List.length hu
          rw [List.length_append, List.length_drop] at this
          omega
         rw [List.nil_append] at h ⊢
         by_cases ha : r.head? = some 123
         ·rw [if_pos ha] at h
          have h0 := hno _ _ _ h
          rw [List.eq_nil_of_length_eq_zero h0] at ha
          cases ha
         ·rw [if_neg ha] at h
          rw [if_neg (hc.2.1 ha)]
          by_cases hb : r.head? = some 40
          ·rw [if_pos hb] at h
           have h0 := hno _ _ _ h
           rw [List.eq_nil_of_length_eq_zero h0] at hb
           cases hb
          ·rw [if_neg (hc.2.2 hb)]
       | cons y t =>
         simp only [List.cons_append, List.head?_cons, List.drop_succ_cons, List.drop_zero] at h ⊢
         by_cases ha : (some y : Option UInt8) = some 123
         ·rw [if_pos ha] at h ⊢; exact hcl t _ _ _ _ h (by simp)
         ·rw [if_neg ha] at h ⊢
          by_cases hb : (some y : Option UInt8) = some 40
          ·rw [if_pos hb] at h ⊢; exact hcl t _ _ _ _ h (by simp)
          ·rw [if_neg hb] at h
           injection h with h
           exact absurd (app_self (t := y :: t) h) (by simp)
      rw [if_neg h4] at h ⊢
      by_cases h5 : c = 40
      ·rw [if_pos h5] at h ⊢
       by_cases hw : wh = 4
       ·rw [if_pos hw] at h ⊢; exact hcl t _ _ _ _ h (Nat.le_refl _)
       ·rw [if_neg hw] at h ⊢; rw [hok h]; rfl
      rw [if_neg h5] at h ⊢
      by_cases h6 : c = 96
      ·rw [if_pos h6] at h; cases h
      ·rw [if_neg h6] at h ⊢; rw [hok h]; rfl
   ·obtain ⟨g, rfl⟩ : ∃ k, g = k + 1 := ⟨g - 1, by omega⟩
    have hlt := lop_lt f h hf
    cases t with
    | nil => simp at hlt
    | cons c t =>
      rw [List.cons_append] at h hf hg ⊢
      rw [lop_succ] at h ⊢
      by_cases he : c = e
      ·rw [if_pos he] at h ⊢
       injection h with h
       rw [app_self h]
       rfl
      ·rw [if_neg he] at h ⊢
       cases hl : thg f (c :: (t ++ r)) wh d with
       | err x b => rw [hl] at h; cases h
       | ok l' =>
         rw [hl] at h
         have h : lop f l' fr e wh d = .ok r := h
         obtain ⟨u, hu⟩ := lop_suf h
         obtain ⟨v, hv⟩ := thg_suf hl
         simp only [List.length_cons, List.length_append] at hf hg
         obtain ⟨k, rfl⟩ : ∃ k, f = k + 1 := ⟨f - 1, by omega⟩
         have h1 := thg_lt hl
         have hl' := congrArg List.length hu
         rw [List.length_append] at hl' h1
         have hult := lop_lt k h (by omega)
         subst hu
         rw [← List.append_assoc, ← List.cons_append] at hv
         have hv := List.append_cancel_right hv
         have hvl := congrArg List.length hv
         rw [List.length_append, List.length_cons] at hvl
         have hvn : v ≠ [] := fun e => by subst e; simp at hvl; omega
         have hun : u ≠ [] := fun e => by subst e; simp at hult
         rw [← List.cons_append, hv, List.append_assoc] at hl ⊢
         have hT := iT v (u ++ r) (u ++ z) wh d g hl hvn (by simp only [List.length_append]; omega) (by simp only [List.length_append]; omega) (Comp.app hun)
         rw [hT]
         exact iL u r z fr fr' e wh d g h (by rw [List.length_append]; omega) (by rw [List.length_append]; omega)

theorem thg_loc {f g : Nat} {t r z : List UInt8} {wh d : Nat} (h : thg f (t ++ r) wh d = .ok r) (ht : t ≠ []) (hf : 3 * (t ++ r).length + 3 ≤ f) (hg : 3 * (t ++ z).length + 3 ≤ g) (hc : Comp r z) : thg g (t ++ z) wh d = .ok z := (loc_all f).1 t r z wh d g h ht hf hg hc


end Go.Proofs.YtnamineofpeahaaGreatDoor

/- A thing ends where it ends, whatever stands behind it. -/
namespace Go.Proofs.YtnamineofpeahaaGreatDoor
open Go.RowKit

theorem wordL_nil (f : Nat) : wordL f [] = .ok [] := by cases f <;> rfl
theorem wordL_cons (f : Nat) (c : UInt8) (r : List UInt8) : wordL (f + 1) (c :: r) = if metB (c.toNat : Int) then .ok (c :: r) else match thg (3 * (r.length + 1) + 3) (c :: r) 0 0 with
 | .err e m => .err e m
 | .ok l => wordL f l := rfl
theorem wordL_suf : ∀ (f : Nat) {l r : List UInt8}, wordL f l = .ok r → ∃ t, l = t ++ r
 | 0, l, r, h => by
   have h : Rs.ok l = .ok r := h
   injection h with h
   exact ⟨[], h⟩
 | f + 1, [], r, h => by
   rw [wordL_nil] at h
   injection h with h
   exact ⟨[], h⟩
 | f + 1, c :: l, r, h => by
   rw [wordL_cons] at h
   split at h
   ·injection h with h; exact ⟨[], h⟩
   ·split at h
    ·cases h
    ·next l' hl =>
     obtain ⟨t, ht⟩ := thg_suf hl
     obtain ⟨u, hu⟩ := wordL_suf f h
     exact ⟨t ++ u, by rw [ht, hu]; simp⟩
/-- What ends a Word: nothing, or a Meta byte. -/
def Ends (z : List UInt8) : Prop := z = [] ∨ ∃ c r, z = c :: r ∧ metB (c.toNat : Int) = true
theorem wordL_ends : ∀ (f : Nat) {l r : List UInt8}, wordL f l = .ok r → l.length ≤ f → Ends r
 | 0, l, r, h, hf => by
   have hl : l = [] := List.eq_nil_of_length_eq_zero (by omega)
   subst hl
   rw [wordL_nil] at h
   injection h with h
   exact .inl h.symm
 | f + 1, [], r, h, hf => by
   rw [wordL_nil] at h
   injection h with h
   exact .inl h.symm
 | f + 1, c :: l, r, h, hf => by
   rw [wordL_cons] at h
   split at h
   ·next hm =>
    injection h with h
    exact .inr ⟨c, l, h.symm, hm⟩
   ·split at h
    ·cases h
    ·next l' hl =>
     have := thg_lt hl
     simp at hf
     exact wordL_ends f h (by omega)
theorem wordL_stop {f : Nat} {z : List UInt8} (hz : Ends z) (hf : z.length ≤ f) : wordL f z = .ok z := by
 rcases hz with rfl | ⟨c, r, rfl, hm⟩
 ·exact wordL_nil f
 ·obtain ⟨f, rfl⟩ : ∃ k, f = k + 1 := ⟨f - 1, by simp at hf; omega⟩
  rw [wordL_cons, if_pos hm]
/-- A Word's text is a Word with anything behind it that ends one. -/
theorem wordL_loc : ∀ (f g : Nat) {t r z : List UInt8}, wordL f (t ++ r) = .ok r → (t ++ r).length ≤ f → (t ++ z).length ≤ g → Comp r z → Ends z → wordL g (t ++ z) = .ok z
 | f, g, [], r, z, h, hf, hg, hc, hz => by rw [List.nil_append] at hg ⊢; exact wordL_stop hz hg
 | 0, g, c :: t, r, z, h, hf, hg, hc, hz => by simp at hf
 | f + 1, 0, c :: t, r, z, h, hf, hg, hc, hz => by simp at hg
 | f + 1, g + 1, c :: t, r, z, h, hf, hg, hc, hz => by
   rw [List.cons_append] at h hf hg ⊢
   rw [wordL_cons] at h ⊢
   by_cases hm : metB (c.toNat : Int) = true
   ·rw [if_pos hm] at h
    injection h with h
    exact absurd (app_self (t := c :: t) h) (by simp)
   ·rw [if_neg hm] at h ⊢
    cases hl : thg (3 * ((t ++ r).length + 1) + 3) (c :: (t ++ r)) 0 0 with
    | err e m => rw [hl] at h; cases h
    | ok l' =>
      rw [hl] at h
      have h : wordL f l' = .ok r := h
      obtain ⟨u, hu⟩ := wordL_suf f h
      obtain ⟨v, hv⟩ := thg_suf hl
      have h1 := thg_lt hl
      have hl' := congrArg List.length hu
      simp only [List.length_cons, List.length_append] at hl' h1 hf hg
      subst hu
      rw [← List.append_assoc, ← List.cons_append] at hv
      have hv := List.append_cancel_right hv
      have hvl := congrArg List.length hv
      rw [List.length_append, List.length_cons] at hvl
      have hvn : v ≠ [] := fun e => by subst e; simp at hvl; omega
      rw [← List.cons_append, hv, List.append_assoc] at hl ⊢
      have hcc : Comp (u ++ r) (u ++ z) := by
       cases u with
       | nil => exact hc
       | cons a u => exact Comp.app (by simp)
      have hT := thg_loc (z := u ++ z) (g := 3 * ((t ++ z).length + 1) + 3) hl hvn (by simp only [List.length_append]; omega) (by simp only [List.length_append]; omega) hcc
      rw [hT]
      exact wordL_loc f g h (by rw [List.length_append]; omega) (by rw [List.length_append]; omega) hc hz

end Go.Proofs.YtnamineofpeahaaGreatDoor

/- A text in place: the lexer's 'takeUp'. -/
namespace Go.Proofs.YtnamineofpeahaaGreatDoor
open Go.RowKit

/-- An awaited text in place, in the block k. -/
def wtCells (q : Nat) (en : ByteArray) (tabs : Bool) : Array Value := #[.pointer (some ⟨q, 0, none⟩), .string en, .bool tabs]

set_option maxRecDepth 20000 in
set_option maxHeartbeats 4000000 in
theorem takeUp_bad (w : World) (b : Nat) (tl : List Value) (s : ByteArray) (p d : Nat) (f bl : Int) (k q : Nat) (en : ByteArray) (tabs : Bool) (t : Tok) (h : Rdr w b 89 tl s p d f bl) (hf : f ≠ 0) (hk : Blk w k 95 (wtCells q en tabs)) (hq : Blk w q 92 t.cells) :
 Calls Tryz.prog 83 #[.pointer (some ⟨b, 0, none⟩), .pointer (some ⟨k, 0, none⟩)] w fun e w' => e = .returned (.tuple #[]) ∧ Below w.heap.size w w' := by
 have hmb : moreB s p f = false := by unfold moreB; rw [show (f == 0) = false by simpa using hf]; rfl
 obtain ⟨o, ho⟩ : ∃ o, o = Obj.cells #[.pointer none, .slice none 0 0] 73 := ⟨_, rfl⟩
 have h' := h.kept (World.grownBy_alloc w o none)
 have hmo := more_any h'
 rw [hmb] at hmo
 have HMO := hide hmo
 have H' := hide h'
 have k0 : (w.alloc o).cell? ⟨k, 0, none⟩ = some (.pointer (some ⟨q, 0, none⟩)) := (hk.alloc o).cell 0 rfl
 have q2 : (w.alloc o).cell? ⟨q, 2, none⟩ = some (.int .i64 t.pos) := (hq.alloc o).cell 2 rfl
 have HB := hide ((Below.refl w.heap.size w).alloc (Nat.le_refl _) o)
 clear hmo hmb h h' hk hq
 go_enter Tryz.func83, Tryz.ntmps83
 go_wp2_with fail
 rw [← ho]
 obtain ⟨wA, hwA⟩ : ∃ x, x = w.alloc o := ⟨_, rfl⟩
 rw [← hwA] at HMO H' k0 q2 HB
 rw [← hwA]
 clear hwA ho
 go_loopw [9] (fun _ wr => wr = wA) (fun _ _ => 0)
 case atStart => rfl
 case round =>
  subst hrel
  go_wp2_with fail
  refine (uh HMO).mono ?_
  rintro en w1 ⟨rfl, k1, hw1⟩
  have k0' : w1.cell? ⟨k, 0, none⟩ = some (.pointer (some ⟨q, 0, none⟩)) := by rw [hw1]; exact k0
  have q2' : w1.cell? ⟨q, 2, none⟩ = some (.int .i64 t.pos) := by rw [hw1]; exact q2
  have HF := hide (fun n => fail_not 12 t.pos (show Rdr (w1.drewN n) b 89 tl s p d f bl by rw [hw1]; exact ((uh H').kept (grown_drewN _ _)).kept (grown_drewN _ _)) hf)
  have HB' : Hid (Below w.heap.size w w1) := hide (by rw [hw1]; exact (uh HB).trans ((below_drew _ _).mono (uh HB).size))
  clear hw1 k0 q2 hf HMO H' HB
  go_wp2_with fail
  go_quiet ((go_at_call 36; exact Calls.quiet_of_same (uh HF _)))
  go_wp2
  refine bodyPost_end (res0 rfl _ _) rfl ?_
  exact ⟨rfl, (uh HB').trans ((below_drew _ _).mono (uh HB').size)⟩

end Go.Proofs.YtnamineofpeahaaGreatDoor

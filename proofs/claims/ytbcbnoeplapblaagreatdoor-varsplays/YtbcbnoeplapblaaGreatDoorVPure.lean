/-
  Variables, plainly: what each call makes of them.
-/
import Derived.Test.YtbcbnoeplapblaaGreatDoorName
namespace Go.Proofs.YtbcbnoeplapblaaGreatDoor
open Go.RowKit

structure Vr where
  name : List UInt8
  value : List UInt8
  set : Bool
  ex : Bool
  ro : Bool
deriving DecidableEq
def vr0 : Vr := ⟨[], [], false, false, false⟩
def Vr.val (x : Vr) : Value := .agg #[.string (BA x.name), .string (BA x.value), .bool x.set, .bool x.ex, .bool x.ro]
/-- What of a list has this name. -/
def getL (L : List Vr) (n : List UInt8) : Vr := (L.find? fun x => x.name == n).getD vr0
def insL (x : Vr) : List Vr → List Vr
  | [] => [x]
  | y :: L => if bytesBefore x.name y.name then x :: y :: L else y :: insL x L
def delL (L : List Vr) (n : List UInt8) : List Vr := L.filter fun y => !(y.name == n)
def putL (L : List Vr) (x : Vr) : List Vr := insL x (delL L x.name)
theorem insL_mem {x : Vr} : ∀ {L : List Vr} {y : Vr}, y ∈ insL x L ↔ y = x ∨ y ∈ L
  | [], y => by simp [insL]
  | z :: L, y => by
    unfold insL
    split
    · simp
    · rw [List.mem_cons, insL_mem (L := L), List.mem_cons]
      constructor
      · rintro (h | h | h)
        · exact .inr (.inl h)
        · exact .inl h
        · exact .inr (.inr h)
      · rintro (h | h | h)
        · exact .inr (.inl h)
        · exact .inl h
        · exact .inr (.inr h)
theorem insL_len (x : Vr) : ∀ L : List Vr, (insL x L).length = L.length + 1
  | [] => rfl
  | y :: L => by
    unfold insL
    split
    · rfl
    · rw [List.length_cons, insL_len x L, List.length_cons]
theorem putL_len (L : List Vr) (x : Vr) : (putL L x).length ≤ L.length + 1 := by
  unfold putL delL
  rw [insL_len]
  have := List.length_filter_le (fun y : Vr => !(y.name == x.name)) L
  omega
theorem delL_len (L : List Vr) (n : List UInt8) : (delL L n).length ≤ L.length := List.length_filter_le _ L
theorem find_ins {x : Vr} {n : List UInt8} : ∀ {L : List Vr}, (∀ y ∈ L, y.name ≠ x.name) → (insL x L).find? (fun y => y.name == n) = if x.name = n then some x else L.find? (fun y => y.name == n)
  | [], _ => by
    unfold insL
    by_cases h : x.name = n <;> simp [h]
  | y :: L, hd => by
    have hy : y.name ≠ x.name := hd y (by simp)
    have ih := find_ins (x := x) (n := n) (L := L) (fun z hz => hd z (by simp [hz]))
    unfold insL
    by_cases h : x.name = n
    · rw [if_pos h] at ih ⊢
      split
      · simp [h]
      · have : (y.name == n) = false := by rw [beq_eq_false_iff_ne, ← h]; exact hy
        rw [List.find?_cons, this]
        exact ih
    · rw [if_neg h] at ih ⊢
      have hx : (x.name == n) = false := by simpa using h
      split
      · rw [List.find?_cons, hx]
      · rw [List.find?_cons, List.find?_cons]
        cases y.name == n with
        | true => rfl
        | false => exact ih
theorem del_ne (L : List Vr) (n : List UInt8) : ∀ y ∈ delL L n, y.name ≠ n := by
  intro y hy
  unfold delL at hy
  rw [List.mem_filter] at hy
  simpa using hy.2
theorem find_del (n m : List UInt8) : ∀ L : List Vr, (delL L n).find? (fun y => y.name == m) = if m = n then none else L.find? (fun y => y.name == m)
  | [] => by simp [delL]
  | y :: L => by
    have ih := find_del n m L
    unfold delL at ih ⊢
    by_cases hy : y.name = n
    · rw [List.filter_cons_of_neg (by simp [hy]), ih]
      by_cases hm : m = n
      · rw [if_pos hm, if_pos hm]
      · rw [if_neg hm, if_neg hm, List.find?_cons, hy]
        have : (n == m) = false := by rw [beq_eq_false_iff_ne]; exact fun e => hm e.symm
        rw [this]
    · rw [List.filter_cons_of_pos (by simp [hy]), List.find?_cons, List.find?_cons]
      cases hym : y.name == m with
      | true =>
        have : y.name = m := by simpa using hym
        rw [if_neg (by rw [← this]; exact hy)]
      | false => exact ih
theorem get_put (L : List Vr) (x : Vr) (n : List UInt8) : getL (putL L x) n = if x.name = n then x else getL L n := by
  unfold getL putL
  rw [find_ins (del_ne L x.name), find_del]
  by_cases h : x.name = n
  · rw [if_pos h, if_pos h]; rfl
  · rw [if_neg h, if_neg h, if_neg (fun e => h e.symm)]
theorem get_del (L : List Vr) (n m : List UInt8) : getL (delL L n) m = if m = n then vr0 else getL L m := by
  unfold getL
  rw [find_del]
  by_cases h : m = n
  · rw [if_pos h, if_pos h]; rfl
  · rw [if_neg h, if_neg h]

theorem front_le (l : List UInt8) : frontN l ≤ l.length := by
  cases l with
  | nil => exact Nat.le_refl _
  | cons c r =>
    rw [frontN]
    split
    · exact spanN_le _ _
    · exact Nat.zero_le _
/-- Whether a text is a name. -/
def namL (l : List UInt8) : Bool := !l.isEmpty && (frontN l == l.length)

/-- A shell's variables, its arguments, the last status. -/
structure VSt where
  zero : List UInt8
  args : List (List UInt8)
  L : List Vr
  st : Int
/-- A call. -/
structure OpP where
  kind : Int
  name : List UInt8
  value : List UInt8
  n : Int
  args : List (List UInt8)
def kndI (k : Int) : Int := ((k.tmod 8 + 8).tmod 8)
def setS (s : VSt) (n v : List UInt8) : VSt × Int :=
  if namL n = false then (s, 16) else if (getL s.L n).ro then (s, 15) else ({ s with L := putL s.L { getL s.L n with name := n, value := v, set := true } }, 0)
def unsS (s : VSt) (n : List UInt8) : VSt × Int :=
  if namL n = false then (s, 16) else if (getL s.L n).ro then (s, 15) else ({ s with L := delL s.L n }, 0)
def expS (s : VSt) (n : List UInt8) : VSt × Int :=
  if namL n = false then (s, 16) else ({ s with L := putL s.L { getL s.L n with name := n, ex := true } }, 0)
def rdoS (s : VSt) (n : List UInt8) : VSt × Int :=
  if namL n = false then (s, 16) else ({ s with L := putL s.L { getL s.L n with name := n, ro := true } }, 0)
def shfS (s : VSt) (n : Int) : VSt × Int :=
  if n < 0 ∨ (s.args.length : Int) < n then (s, 1) else ({ s with args := s.args.drop n.toNat }, 0)
def stepS (s : VSt) (o : OpP) : VSt × Int :=
  if kndI o.kind = 2 then unsS s o.name
  else if kndI o.kind = 3 then expS s o.name
  else if kndI o.kind = 4 then rdoS s o.name
  else if kndI o.kind = 5 then ({ s with args := o.args }, 0)
  else if kndI o.kind = 6 then shfS s o.n
  else if kndI o.kind = 7 then ({ s with st := o.n }, 0)
  else setS s o.name o.value
theorem step_len (s : VSt) (o : OpP) : (stepS s o).1.L.length ≤ s.L.length + 1 := by
  unfold stepS unsS expS rdoS shfS setS
  repeat' split
  all_goals first | exact Nat.le_succ _ | exact putL_len _ _ | exact Nat.le_succ_of_le (delL_len _ _)
theorem step_args (s : VSt) (o : OpP) (n : Nat) (h : s.args.length ≤ n) (ho : o.args.length ≤ n) : (stepS s o).1.args.length ≤ n := by
  unfold stepS unsS expS rdoS shfS setS
  repeat' split
  all_goals first | exact h | exact ho | (simp only [List.length_drop]; omega)

end Go.Proofs.YtbcbnoeplapblaaGreatDoor

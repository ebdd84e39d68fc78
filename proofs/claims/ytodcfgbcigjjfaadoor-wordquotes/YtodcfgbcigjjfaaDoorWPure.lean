/-
  Words, plainly: parts, and what a text is read as.
-/
import Derived.Test.YtodcfgbcigjjfaaDoorThing
import Derived.Test.YtodcfgbcigjjfaaDoorName
namespace Go.Proofs.YtodcfgbcigjjfaaDoor

inductive Prt where
  | mk (kind : Int) (text : List UInt8) (quote : Bool) (op : Int) (colon : Bool) (sub : List Prt) : Prt
def Prt.kind : Prt → Int
  | .mk k _ _ _ _ _ => k
def Prt.text : Prt → List UInt8
  | .mk _ t _ _ _ _ => t
def Prt.quote : Prt → Bool
  | .mk _ _ q _ _ _ => q
def Prt.op : Prt → Int
  | .mk _ _ _ o _ _ => o
def Prt.colon : Prt → Bool
  | .mk _ _ _ _ c _ => c
def Prt.sub : Prt → List Prt
  | .mk _ _ _ _ _ s => s

mutual
def sameP : Prt → Prt → Bool
  | .mk k t q o c s, .mk k' t' q' o' c' s' => k == k' && t == t' && q == q' && o == o' && c == c' && sameW s s'
def sameW : List Prt → List Prt → Bool
  | [], [] => true
  | a :: r, b :: r' => sameP a b && sameW r r'
  | [], _ :: _ => false
  | _ :: _, [] => false
end
theorem sameP_mk (k t q o c s k' t' q' o' c' s') : sameP (.mk k t q o c s) (.mk k' t' q' o' c' s') = (k == k' && t == t' && q == q' && o == o' && c == c' && sameW s s') := by rw [sameP]
theorem sameW_cons (a b : Prt) (r r' : List Prt) : sameW (a :: r) (b :: r') = (sameP a b && sameW r r') := by rw [sameW]
theorem sameW_nil : sameW [] [] = true := by rw [sameW]
mutual
theorem sameP_eq : ∀ a b : Prt, sameP a b = true → a = b
  | .mk k t q o c s, .mk k' t' q' o' c' s', h => by
    rw [sameP_mk] at h
    simp only [Bool.and_eq_true, beq_iff_eq] at h
    obtain ⟨⟨⟨⟨⟨h1, h2⟩, h3⟩, h4⟩, h5⟩, h6⟩ := h
    rw [h1, h2, h3, h4, h5, sameW_eq s s' h6]
theorem sameW_eq : ∀ a b : List Prt, sameW a b = true → a = b
  | [], [], _ => rfl
  | a :: r, b :: r', h => by
    rw [sameW_cons] at h
    simp only [Bool.and_eq_true] at h
    rw [sameP_eq a b h.1, sameW_eq r r' h.2]
  | [], _ :: _, h => by rw [sameW] at h; cases h
  | _ :: _, [], h => by rw [sameW] at h; cases h
end
mutual
theorem sameP_refl : ∀ a : Prt, sameP a a = true
  | .mk k t q o c s => by
    rw [sameP_mk, sameW_refl s]
    simp
theorem sameW_refl : ∀ a : List Prt, sameW a a = true
  | [] => sameW_nil
  | a :: r => by rw [sameW_cons, sameP_refl a, sameW_refl r]; rfl
end
theorem sameW_ne {a b : List Prt} (h : sameW a b = false) : a ≠ b := by
  intro e
  rw [e, sameW_refl] at h
  cases h
theorem sameW_len : ∀ {a b : List Prt}, a.length ≠ b.length → sameW a b = false
  | [], [], h => absurd rfl h
  | [], _ :: _, _ => by rw [sameW]
  | _ :: _, [], _ => by rw [sameW]
  | a :: r, b :: r', h => by
    rw [sameW_cons, sameW_len (a := r) (b := r') (by intro e; exact h (by simp [e]))]
    simp

/-- Bytes as a part. -/
def litP (t : List UInt8) (q : Bool) : Prt := .mk 1 t q 0 false []
/-- A part more: bytes behind bytes of the same kind are one part. -/
def addP (ps : List Prt) (p : Prt) : List Prt :=
  match ps.getLast? with
  | none => [p]
  | some (.mk k t q o c s) => if k = 1 ∧ p.kind = 1 ∧ q = p.quote then ps.dropLast ++ [.mk k (t ++ p.text) q o c s] else ps ++ [p]
theorem addP_nil (p : Prt) : addP [] p = [p] := rfl
theorem addP_snoc (ps : List Prt) (k t q o c s) (p : Prt) : addP (ps ++ [.mk k t q o c s]) p = if k = 1 ∧ p.kind = 1 ∧ q = p.quote then ps ++ [.mk k (t ++ p.text) q o c s] else ps ++ [.mk k t q o c s, p] := by
  unfold addP
  simp

/-- The ways: 0 plain, 1 in a brace, 2 in quotes, 3 in a quoted brace, 4 a quoted pattern, 5 in place. -/
def allW (w : Nat) : Bool := w == 2 || w == 3 || w == 5
def sngW (w : Nat) : Bool := w == 0 || w == 1
/-- Whether the thing that begins with c is one of quotes (b: as the program asks). -/
def flagW (b : Bool) (w : Nat) (c : UInt8) : Bool := !sngW w && !(c == 34 && (w == 3 || w == 4 || (w == 2 && !b)))
def escW (w : Nat) (c : UInt8) : Bool := c == 36 || c == 92 || c == 96 || (c == 34 && w != 5) || (c == 125 && w == 3)
def withinW (w : Nat) (op : Int) : Nat := if sngW w then 1 else if 6 ≤ op then 4 else 3
def speB (c : UInt8) : Bool := c == 64 || c == 42 || c == 35 || c == 63
/-- How long a parameter is. -/
def parN (l : List UInt8) : Nat :=
  if 0 < frontN l then frontN l else match l with
  | [] => 0
  | c :: _ => if speB c then 1 else if 3 < spanN digB l ∨ (1 < spanN digB l ∧ c = 48) then 0 else spanN digB l
/-- How long the parameter behind a $ is. -/
def nmdN (l : List UInt8) : Nat :=
  if 0 < frontN l then frontN l else match l with
  | [] => 0
  | c :: _ => if digB (c.toNat : Int) || speB c then 1 else 0
/-- The Op at the front of a text, and what is behind its sign. -/
def sgnL : Bool → List UInt8 → Option (Int × List UInt8)
  | _, 45 :: r => some (2, r)
  | _, 61 :: r => some (3, r)
  | _, 63 :: r => some (4, r)
  | _, 43 :: r => some (5, r)
  | false, 35 :: 35 :: r => some (7, r)
  | false, 35 :: r => some (6, r)
  | false, 37 :: 37 :: r => some (9, r)
  | false, 37 :: r => some (8, r)
  | _, _ => none
/-- What stands behind a backslash. -/
def pairL (w : Nat) (u : List UInt8) : List Prt :=
  if u = [10] then [] else if u = [] then [litP [92] true] else if allW w && !(u.all (escW w)) then [litP (92 :: u) true] else [litP u true]
/-- Whether nothing is left. -/
def okNil : Rs → Bool
  | .ok [] => true
  | .ok (_ :: _) => false
  | .err _ _ => false
/-- Whether a text is one bracket. -/
def brkB (l : List UInt8) : Bool := (l.head? == some 40) && okNil (thg (3 * (l.length + 1) + 3) (36 :: l) 0 0)
def runP (l : List UInt8) : Prt := if brkB l then .mk 4 ((l.drop 1).dropLast) false 0 false [] else .mk 3 l false 0 false []
def setQ (q : Bool) : Prt → Prt
  | .mk k t _ o c s => .mk k t q o c s
inductive Rd where
  | ok (ps : List Prt)
  | err (e : Int)
inductive Th where
  | ok (ps : List Prt) (r : List UInt8)
  | err (e : Int)
def Rd.word : Rd → Rd
  | .ok ps => .ok (ps.foldl addP [])
  | .err e => .err e
def colonL (l : List UInt8) : Bool := l.head? == some 58
def behindL (l : List UInt8) : List UInt8 := if colonL l then l.drop 1 else l
inductive Bd where
  | ok (p : Prt)
  | err (e : Int)
/-- What stands in a brace; rd: how a text within it is read. -/
def brcL (rd : Nat → List UInt8 → Rd) (w : Nat) (l : List UInt8) : Bd :=
  if l.head? = some 35 ∧ l.drop 1 ≠ [] ∧ parN (l.drop 1) = (l.drop 1).length then .ok (.mk 2 (l.drop 1) false 1 false [])
  else if parN l = 0 then .err 10
  else if parN l = l.length then .ok (.mk 2 l false 0 false [])
  else match sgnL (colonL (l.drop (parN l))) (behindL (l.drop (parN l))) with
    | none => .err 10
    | some (op, t) => match (rd (withinW w op) t).word with
      | .err e => .err e
      | .ok ps => .ok (.mk 2 (l.take (parN l)) false op (colonL (l.drop (parN l))) ps)
/-- A brace, or a run, u: what stands behind the $. -/
def lngL (rd : Nat → List UInt8 → Rd) (w : Nat) (u : List UInt8) : Bd := if u.head? = some 40 then .ok (runP (u.drop 1).dropLast) else brcL rd w (u.drop 1).dropLast
/-- What a thing t is, rest behind it. -/
def thnL (rd : Nat → List UInt8 → Rd) (w : Nat) (c : UInt8) (u rest : List UInt8) : Th :=
  if c = 92 then .ok (pairL w u) rest
  else if c = 39 ∧ u ≠ [] then .ok [litP u.dropLast true] rest
  else if c = 34 ∧ u ≠ [] then match (rd 2 u.dropLast).word with
    | .err e => .err e
    | .ok ps => .ok (if ps.isEmpty then [litP [] true] else ps) rest
  else if c = 36 ∧ u = [] then (if nmdN rest = 0 then .ok [litP [36] true] rest else .ok [.mk 2 (rest.take (nmdN rest)) (allW w) 0 false []] (rest.drop (nmdN rest)))
  else if c = 36 then match lngL rd w u with
    | .err e => .err e
    | .ok p => .ok [setQ (allW w) p] rest
  else if w = 0 ∧ metB (c.toNat : Int) = true then .err 10
  else .ok [litP [c] (allW w)] rest
/-- The thing at the front of a text. -/
def thiL (b : Bool) (rd : Nat → List UInt8 → Rd) (w : Nat) (c : UInt8) (r : List UInt8) : Th :=
  match thg (3 * (r.length + 1) + 3) (c :: r) (if flagW b w c then 1 else 0) 0 with
  | .err e _ => .err e
  | .ok rest => thnL rd w c (r.take (r.length - rest.length)) rest
/-- What a text is read as, thing by thing. -/
def rdL (b : Bool) : Nat → Nat → List UInt8 → Rd
  | 0, _, _ => .ok []
  | _ + 1, _, [] => .ok []
  | f + 1, w, c :: r => match thiL b (rdL b f) w c r with
    | .err e => .err e
    | .ok ps rest => match rdL b f w rest with
      | .err e => .err e
      | .ok qs => .ok (ps ++ qs)
/-- The word that a text is. -/
def wrdL (b : Bool) (w : Nat) (l : List UInt8) : Rd := if 4096 < l.length then .err 3 else (rdL b (l.length + 1) w l).word
def Rd.parts : Rd → List Prt
  | .ok ps => ps
  | .err _ => []
def Rd.errno : Rd → Int
  | .ok _ => 0
  | .err e => e

end Go.Proofs.YtodcfgbcigjjfaaDoor

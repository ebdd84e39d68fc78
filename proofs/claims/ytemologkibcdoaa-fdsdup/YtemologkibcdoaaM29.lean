/-
  Files (stage 14) in memory: open files beside a tree.
  Files (stage 14): Read, Write, At, Node, Close of a file.
-/
import Derived.Test.YtemologkibcdoaaM28
import Derived.Laws.Entries

/- Files (stage 14) in memory: open files beside a tree. -/
namespace Go.Proofs.Ytemologkibcdoaa
open Go.RowKit Go.Maps

/-- An open file (or one that was closed): its node, its place, its flags. -/
structure Fl where
  cl : Bool
  node : Int
  at' : Int
  fl : Int
def flV (f : Nat) (x : Fl) : Array Value := #[.pointer (if x.cl then none else some ⟨f, 0, none⟩), .int .i64 x.node, .int .i64 x.at', .int .i64 x.fl]
structure FlOk (x : Fl) : Prop where
  node : 0 ≤ x.node ∧ x.node ≤ 1024
  at' : 0 ≤ x.at' ∧ x.at' ≤ 100000
theorem FX.rebased {w : World} {f q nb n : Nat} {B : Bas} {Y : Nat → Prop} {s : NS} (H : FX w f q Y s nb n B) : FX w f q Y s nb n ⟨B.w, w, Y⟩ := ⟨⟨H.nd.at', H.nd.ok, H.nd.env.rebase H.new, fun k hk => ⟨(H.nd.yb k hk).1, hk⟩⟩, H.blk, H.no, H.new⟩
theorem FX.back {w w' : World} {f q nb n n' : Nat} {B : Bas} {Y : Nat → Prop} {s s' : NS} (H : FX w f q Y s nb n B) (H' : FX w' f q Y s' nb n' ⟨B.w, w, Y⟩) : FX w' f q Y s' nb n' B ∧ GrownS w w' Y := ⟨⟨⟨H'.nd.at', H'.nd.ok, H.nd.env.grownS H'.nd.env.kept H.nd.yb, H.nd.yb⟩, H'.blk, H'.no, H'.new⟩, H'.nd.env.kept⟩
def hasF (fl k : Int) : Bool := (bits .and .i64 fl k == k)
/-- Why a file is refused. -/
def refuF (x : Fl) (k : Int) : Int := if x.cl then 28 else if hasF x.fl k then 0 else 33
end Go.Proofs.Ytemologkibcdoaa

/- Files (stage 14): Read, Write, At, Node, Close of a file. -/
namespace Go.Proofs.Ytemologkibcdoaa
open Go.RowKit Go.Maps

theorem set_at {α : Type} {l : List α} {j : Nat} {a : α} (h : l[j]? = some a) : l.set j a = l := by
  apply List.ext_getElem?
  intro k
  by_cases e : j = k
  · subst e
    have hl : j < l.length := by
      rcases Nat.lt_or_ge j l.length with h2 | h2
      · exact h2
      · rw [List.getElem?_eq_none h2] at h; cases h
    rw [List.getElem?_set_self hl, h]
  · rw [List.getElem?_set_ne e]
theorem refu_no {x : Fl} {k : Int} (h : refuF x k = 0) : x.cl = false ∧ hasF x.fl k = true := by
  unfold refuF at h
  cases hc : x.cl with
  | true => rw [hc] at h; cases h
  | false =>
    rw [hc] at h
    cases hf : hasF x.fl k with
    | true => exact ⟨rfl, rfl⟩
    | false => rw [hf] at h; cases h
def xrdE (s : NS) (x : Fl) (m : Int) : Int := if refuF x 1 ≠ 0 then refuF x 1 else nrdE s x.node x.at' m
def xrdT (s : NS) (x : Fl) (m : Int) : List UInt8 := if refuF x 1 ≠ 0 ∨ nrdE s x.node x.at' m ≠ 0 then [] else nrdT s x.node x.at' m
def xrdX (s : NS) (x : Fl) (m : Int) : Fl := { x with at' := x.at' + ((xrdT s x m).length : Int) }
theorem nrd_len {s : NS} {n : Nat} (K : NOk s n) (d a m : Int) : ((nrdT s d a m).length : Int) ≤ 4096 ∧ (0 ≤ a → a ≤ 100000 → a + ((nrdT s d a m).length : Int) ≤ 100000) := by
  unfold nrdT
  split
  · unfold rdT
    split
    · simp
    · rename_i x hx
      obtain ⟨k, _, hk, _⟩ := ndAt_some hx
      have hsz := (K.gd k x hk).1.size
      split
      · simp
      · rename_i h
        rw [List.length_take, List.length_drop, datOf_len]
        refine ⟨by omega, fun h1 h2 => by omega⟩
  · simp
/-- The node's size, where there is the node. -/
def endA (s : NS) (x : Fl) : Int := if kdI s.T x.node = 0 then x.at' else (statZ s x.node : Int)
/-- The place at which Write writes. -/
def xwrA (s : NS) (x : Fl) : Int := if hasF x.fl 4 then endA s x else x.at'
/-- What Write answers and leaves. -/
def XwrSp (s : NS) (nb : Nat) (x : Fl) (d : List UInt8) (N E : Int) (s' : NS) (x' : Fl) : Prop :=
  (refuF x 2 ≠ 0 ∧ N = 0 ∧ E = refuF x 2 ∧ s' = s ∧ x' = x) ∨ (refuF x 2 = 0 ∧ ∃ N1, WrtSp s nb x.node (xwrA s x) d N1 E s' ∧ N = (if E = 0 then N1 else 0) ∧ x' = { x with at' := if E = 0 then xwrA s x + N1 else xwrA s x })
theorem endA_rng {s : NS} {n : Nat} (K : NOk s n) (hn : n ≤ 10000) {x : Fl} (h : FlOk x) : 0 ≤ endA s x ∧ endA s x ≤ 100000 := by
  unfold endA
  split
  · exact h.at'
  · unfold statZ
    split
    · have := in_len K x.node
      omega
    · cases hx : ndAt s.T x.node with
      | none => simp [sizeOfN]
      | some y =>
        obtain ⟨k, _, hk, _⟩ := ndAt_some hx
        have := (K.gd k y hk).1.size
        simp only [sizeOfN]
        omega
theorem xwrA_rng {s : NS} {n : Nat} (K : NOk s n) (hn : n ≤ 10000) {x : Fl} (h : FlOk x) : 0 ≤ xwrA s x ∧ xwrA s x ≤ 100000 := by
  unfold xwrA
  split
  · exact endA_rng K hn h
  · exact h.at'
theorem wrt_rng {s s' : NS} {nb : Nat} {d a N : Int} {x : List UInt8} (h : WrtSp s nb d a x N 0 s') (h0 : 0 ≤ a) (h1 : a ≤ 100000) : 0 ≤ N ∧ a + N ≤ 100000 := by
  rcases h with ⟨e1, e2, e3, _⟩ | ⟨_, T', h, _⟩
  · exact absurd e3.symm e1
  · cases h with
    | empty x hx ha hd => exact ⟨by omega, by omega⟩
    | done x a' m hx ha hl hd hm hp =>
      have := hp.max
      exact ⟨by omega, by omega⟩
theorem at_set {l : List (Nat × Fl)} {j b : Nat} {x : Fl} (hj : l[j]? = some (b, x)) (y : Nat × Fl) : (l.set j y)[j]? = some y := by
  have hl : j < l.length := by
    rcases Nat.lt_or_ge j l.length with h2 | h2
    · exact h2
    · rw [List.getElem?_eq_none h2] at hj; cases hj
  exact List.getElem?_set_self hl
theorem has_zero (fl : Int) : hasF fl 0 = true := by
  unfold hasF bits
  simp
  rfl
theorem refu_zero (x : Fl) : refuF x 0 = if x.cl then 28 else 0 := by
  unfold refuF
  rw [has_zero]
  rfl
def xclS (s : NS) (x : Fl) : NS := if x.cl then s else looS s x.node
end Go.Proofs.Ytemologkibcdoaa

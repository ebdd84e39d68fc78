/-
  Files (stage 14): Open.
  Numbers of open files (stage 16): what is open in pure form, and what each call makes of it.
-/
import Derived.Test.YtemologkibcdoaaM29
import Derived.Test.YtemologkibcdoaaM44

/- Files (stage 14): Open. -/
namespace Go.Proofs.Ytemologkibcdoaa
open Go.RowKit Go.Maps

theorem walk_rg {s : NS} {n : Nat} (K : NOk s n) (d : Int) (p : List UInt8) (fl : Bool) : 0 ≤ (walkN s d p fl).1 ∧ (walkN s d p fl).1 ≤ 1024 := by
  unfold walkN
  split
  · rename_i h
    have hr := isD_rng K h
    exact (goes_bnd K 8 p fl 8 hr.1 hr.2).1
  · exact ⟨by decide, by decide⟩
theorem made_rg {s s' : NS} {n nb : Nat} (K : NOk s n) {d N E : Int} {p t : List UInt8} {k : Int} (h : MadeSp s nb d p k t N E s') : 0 ≤ N ∧ N ≤ 1024 := by
  cases h with
  | bad h => exact ⟨by decide, by decide⟩
  | nodes h1 h2 => exact ⟨by decide, by decide⟩
  | space => exact ⟨by decide, by decide⟩
  | done N' E' T1 T2 h1 h2 h3 h4 h5 =>
    have := make_rng h2 K.max
    omega
def crE (E : Int) : Int := if E = 22 then 23 else E
def crN (N E : Int) : Int := if E = 22 then 0 else N
/-- Which node is opened. -/
inductive FiSp (s : NS) (nb : Nat) (d : Int) (p : List UInt8) (fl : Int) : Int → Int → NS → Prop
  | mk (N E : Int) (s' : NS) : (walkN s d p true).2 = 23 → hasF fl 8 = true → MadeSp s nb d p 1 [] N E s' → FiSp s nb d p fl (crN N E) (crE E) s'
  | no : (walkN s d p true).2 ≠ 0 → ((walkN s d p true).2 = 23 → hasF fl 8 = false) → FiSp s nb d p fl 0 (walkN s d p true).2 s
  | there : (walkN s d p true).2 = 0 → hasF fl 40 = true → FiSp s nb d p fl 0 22 s
  | dir : (walkN s d p true).2 = 0 → hasF fl 40 = false → isD s (walkN s d p true).1 = true → FiSp s nb d p fl 0 24 s
  | ok : (walkN s d p true).2 = 0 → hasF fl 40 = false → isD s (walkN s d p true).1 = false → FiSp s nb d p fl (walkN s d p true).1 0 s
theorem fi_rg {s s' : NS} {n nb : Nat} (K : NOk s n) {d N E : Int} {p : List UInt8} {fl : Int} (h : FiSp s nb d p fl N E s') : 0 ≤ N ∧ N ≤ 1024 := by
  cases h with
  | mk N' E' s' h1 h2 h3 =>
    have := made_rg K h3
    unfold crN
    split
    · omega
    · exact this
  | no => exact ⟨by decide, by decide⟩
  | there => exact ⟨by decide, by decide⟩
  | dir => exact ⟨by decide, by decide⟩
  | ok => exact walk_rg K _ _ _
/-- Flags that are none. -/
def badF (fl : Int) : Bool := (bits .and .i64 fl 3 == 0) || (bits .andNot .i64 fl 63 != 0)
def opS (s : NS) (N fl : Int) : NS := { (if hasF fl 18 then ncutS s N 0 else s) with T := holdT (if hasF fl 18 then ncutS s N 0 else s).T N }
/-- What Open answers and leaves. -/
inductive OpSp (s : NS) (nb : Nat) (d : Int) (p : List UInt8) (fl : Int) : Option Fl → Int → NS → Prop
  | arg : badF fl = true → OpSp s nb d p fl none 1 s
  | err (N E : Int) (s' : NS) : badF fl = false → FiSp s nb d p fl N E s' → E ≠ 0 → OpSp s nb d p fl none E s'
  | ok (N : Int) (s' : NS) : badF fl = false → FiSp s nb d p fl N 0 s' → OpSp s nb d p fl (some ⟨false, N, 0, fl⟩) 0 (opS s' N fl)
theorem made_is2 {s s' : NS} {nb : Nat} {d kind N E : Int} {p : List UInt8} (h : MadeSp s nb d p kind [] N E s') (h1 : (roomN s d p).2.2 = 0) (h2 : makeE s.T kind = 0) : N = makeN s.T kind ∧ E = 0 ∧ s' = ⟨tieT (makeT s.T kind) (makeN s.T kind), putL s.L ⟨(roomN s d p).1, (roomN s d p).2.1, makeN s.T kind⟩, parU s.par (makeN s.T kind) (roomN s d p).1⟩ := by
  obtain ⟨a1, a2, a3⟩ := make_all h2
  have a4 : ndAt (makeT s.T kind) (makeN s.T kind) = some (nd0 kind.toNat) := by rw [a3, if_pos rfl]
  have hx : ndAt (tieT (makeT s.T kind) (makeN s.T kind)) (makeN s.T kind) = some (tieN (nd0 kind.toNat)) := by
    unfold tieT
    rw [a4]
    dsimp only
    rw [set_nd a4, if_pos rfl]
  have hd : MadeSp s nb d p kind [] (makeN s.T kind) 0 ⟨tieT (makeT s.T kind) (makeN s.T kind), putL s.L ⟨(roomN s d p).1, (roomN s d p).2.1, makeN s.T kind⟩, parU s.par (makeN s.T kind) (roomN s d p).1⟩ := .done 0 0 _ _ h1 h2 rfl (.empty _ hx (Int.le_refl _) rfl) (by decide)
  exact h.uniq hd
theorem op_made {s s' : NS} {nb : Nat} {d fl E : Int} {p : List UInt8} {o : Option Fl} (h : OpSp s nb d p fl o E s') (hb : badF fl = false) (hw : (walkN s d p true).2 = 23) (h8 : hasF fl 8 = true) (hr : (roomN s d p).2.2 = 0) (hm : makeE s.T 1 = 0) : E = 0 ∧ o = some ⟨false, makeN s.T 1, 0, fl⟩ ∧ s' = opS ⟨tieT (makeT s.T 1) (makeN s.T 1), putL s.L ⟨(roomN s d p).1, (roomN s d p).2.1, makeN s.T 1⟩, parU s.par (makeN s.T 1) (roomN s d p).1⟩ (makeN s.T 1) fl := by
  have key : ∀ N E s1, FiSp s nb d p fl N E s1 → N = makeN s.T 1 ∧ E = 0 ∧ s1 = ⟨tieT (makeT s.T 1) (makeN s.T 1), putL s.L ⟨(roomN s d p).1, (roomN s d p).2.1, makeN s.T 1⟩, parU s.par (makeN s.T 1) (roomN s d p).1⟩ := by
    intro N E s1 h
    cases h with
    | mk N' E' _ h1 h2 h3 =>
      obtain ⟨e1, e2, e3⟩ := made_is2 h3 hr hm
      subst e2
      exact ⟨e1, rfl, e3⟩
    | no h1 h2 => rw [h2 hw] at h8; cases h8
    | there h1 h2 => rw [hw] at h1; cases h1
    | dir h1 h2 => rw [hw] at h1; cases h1
    | ok h1 h2 => rw [hw] at h1; cases h1
  cases h with
  | arg h => rw [hb] at h; cases h
  | err N E s1 h1 h2 h3 => exact absurd (key N E _ h2).2.1 h3
  | ok N s1 h1 h2 =>
    obtain ⟨e1, _, e3⟩ := key N 0 s1 h2
    subst e1
    subst e3
    exact ⟨rfl, rfl, rfl⟩
theorem op_found {s s' : NS} {nb : Nat} {d fl E N : Int} {p : List UInt8} {o : Option Fl} (h : OpSp s nb d p fl o E s') (hb : badF fl = false) (hw : walkN s d p true = (N, 0)) (h40 : hasF fl 40 = false) (hd : isD s N = false) : E = 0 ∧ o = some ⟨false, N, 0, fl⟩ ∧ s' = opS s N fl := by
  have key : ∀ N' E s1, FiSp s nb d p fl N' E s1 → N' = N ∧ E = 0 ∧ s1 = s := by
    intro N' E s1 h
    cases h with
    | mk N' E' _ h1 h2 h3 => rw [hw] at h1; cases h1
    | no h1 h2 => rw [hw] at h1; exact absurd rfl h1
    | there h1 h2 => rw [h40] at h2; cases h2
    | dir h1 h2 h3 => rw [hw] at h3; rw [show ((N, (0 : Int)) : Int × Int).1 = N from rfl, hd] at h3; cases h3
    | ok h1 h2 => rw [hw]; exact ⟨rfl, rfl, rfl⟩
  cases h with
  | arg h => rw [hb] at h; cases h
  | err N E s1 h1 h2 h3 => exact absurd (key N E _ h2).2.1 h3
  | ok N s1 h1 h2 =>
    obtain ⟨e1, _, e3⟩ := key N 0 s1 h2
    subst e1
    subst e3
    exact ⟨rfl, rfl, rfl⟩
theorem op_there {s s' : NS} {nb : Nat} {d fl E N : Int} {p : List UInt8} {o : Option Fl} (h : OpSp s nb d p fl o E s') (hb : badF fl = false) (hw : walkN s d p true = (N, 0)) (h40 : hasF fl 40 = true) : E = 22 ∧ o = none ∧ s' = s := by
  have key : ∀ N' E s1, FiSp s nb d p fl N' E s1 → E = 22 ∧ s1 = s := by
    intro N' E s1 h
    cases h with
    | mk N' E' _ h1 h2 h3 => rw [hw] at h1; cases h1
    | no h1 h2 => rw [hw] at h1; exact absurd rfl h1
    | there h1 h2 => exact ⟨rfl, rfl⟩
    | dir h1 h2 h3 => rw [h40] at h2; cases h2
    | ok h1 h2 => rw [h40] at h2; cases h2
  cases h with
  | arg h => rw [hb] at h; cases h
  | err N E s1 h1 h2 h3 =>
    obtain ⟨e1, e2⟩ := key N E _ h2
    exact ⟨e1, rfl, e2⟩
  | ok N s1 h1 h2 => exact absurd (key N 0 s1 h2).1 (by decide)

end Go.Proofs.Ytemologkibcdoaa

/- Numbers of open files (stage 16): what is open in pure form, and what each call makes of it. -/
namespace Go.Proofs.Ytemologkibcdoaa
open Go.RowKit Go.Maps

/-- What something open is: a file, an end of a pipe, a tape, a sink. -/
inductive Wh where
  | file (x : Fl)
  | rd (p : Nat)
  | wr (p : Nat)
  | tape (t : List UInt8)
  | sink (k : Nat)
/-- Something open, for so many numbers. -/
structure Th where
  wh : Wh
  many : Nat
/-- All: the tree, things, pipes, sinks, sets. -/
structure AS where
  s : NS
  th : List Th
  pp : List Pi.Pp
  sk : List (List UInt8)
  st : List (List (Option Nat))
def fdOk (fd : Int) : Bool := decide (0 ≤ fd) && decide (fd < 16)
theorem fdOk_iff {fd : Int} : fdOk fd = true ↔ 0 ≤ fd ∧ fd < 16 := by simp [fdOk]
/-- The thing of a number of a row. -/
def numL (l : List (Option Nat)) (fd : Int) : Option Nat := if fdOk fd then (l[fd.toNat]?).join else none
def row (A : AS) (k : Nat) : List (Option Nat) := A.st[k]?.getD []
def openA (A : AS) : Nat := A.th.countP (fun t => decide (0 < t.many))
def refL (l : List (Option Nat)) (fd : Int) : Int := if (numL l fd).isSome then 0 else 28
def refNewL (l : List (Option Nat)) (fd : Int) : Int := if fdOk fd then (if (numL l fd).isSome then 22 else 0) else 28
/-- The numbers that are open, and those that are not. -/
def numsL (l : List (Option Nat)) (o : Bool) : List Nat := (List.range 16).filter (fun j => ((l[j]?).join).isSome == o)
def putA (A : AS) (k : Nat) (fd : Int) (o : Option Nat) : AS := { A with st := A.st.set k ((row A k).set fd.toNat o) }
def manyA (A : AS) (i m : Nat) : AS := match A.th[i]? with | none => A | some t => { A with th := A.th.set i ⟨t.wh, m⟩ }
def takeA (A : AS) (k : Nat) (fd : Int) (i : Nat) : AS := match A.th[i]? with | none => A | some t => putA (manyA A i (t.many + 1)) k fd (some i)
def setWh (A : AS) (i : Nat) (x : Wh) : AS := match A.th[i]? with | none => A | some t => { A with th := A.th.set i ⟨x, t.many⟩ }
def setPp (A : AS) (p : Nat) (g : Pi.Pp → Pi.Pp) : AS := match A.pp[p]? with | none => A | some y => { A with pp := A.pp.set p (g y) }
/-- Its last number is closed: so is it. -/
def closeW (A : AS) (i : Nat) : Wh → AS
  | .file x => { setWh A i (.file { x with cl := true }) with s := xclS A.s x }
  | .rd p => setPp A p (fun y => Pi.leS y false)
  | .wr p => setPp A p (fun y => Pi.leS y true)
  | _ => A
def closeA (A : AS) (i : Nat) : AS := match A.th[i]? with | none => A | some t => closeW A i t.wh
def dropA (A : AS) (k : Nat) (fd : Int) : AS := match numL (row A k) fd with
  | none => A
  | some i => match A.th[i]? with
    | none => A
    | some t => if t.many = 1 then closeA (manyA (putA A k fd none) i 0) i else manyA (putA A k fd none) i (t.many - 1)
/-- A new thing. -/
def nwA (A : AS) (x : Wh) : AS := { A with th := A.th ++ [⟨x, 0⟩] }

/-- What is read of something open, why not, and what that makes of it. -/
def ppA (A : AS) (p : Nat) : Pi.Pp := A.pp[p]?.getD Pi.np0
def rdWhE (A : AS) (m : Int) : Wh → Int
  | .file x => xrdE A.s x m
  | .rd p => Pi.rdE (ppA A p) m
  | .tape _ => if m < 0 then 1 else 0
  | _ => 33
def rdWhT (A : AS) (m : Int) : Wh → List UInt8
  | .file x => xrdT A.s x m
  | .rd p => Pi.rdT (ppA A p) m
  | .tape t => if m < 0 then [] else t.take m.toNat
  | _ => []
def rdWhA (A : AS) (i : Nat) (m : Int) : Wh → AS
  | .file x => setWh A i (.file (xrdX A.s x m))
  | .rd p => setPp A p (fun y => Pi.rdS y m)
  | .tape t => if m < 0 then A else setWh A i (.tape (t.drop m.toNat))
  | _ => A
def redE (A : AS) (k : Nat) (fd m : Int) : Int := match numL (row A k) fd with | none => 28 | some i => match A.th[i]? with | none => 28 | some t => rdWhE A m t.wh
def redT (A : AS) (k : Nat) (fd m : Int) : List UInt8 := match numL (row A k) fd with | none => [] | some i => match A.th[i]? with | none => [] | some t => rdWhT A m t.wh
def redA (A : AS) (k : Nat) (fd m : Int) : AS := match numL (row A k) fd with | none => A | some i => match A.th[i]? with | none => A | some t => rdWhA A i m t.wh
/-- What is written to something open. -/
inductive WrWh (A : AS) (nb i : Nat) (d : List UInt8) : Wh → Int → Int → AS → Prop
  | file (x : Fl) (N E : Int) (s' : NS) (x' : Fl) : XwrSp A.s nb x d N E s' x' → WrWh A nb i d (.file x) N E { setWh A i (.file x') with s := s' }
  | rd (p : Nat) : WrWh A nb i d (.rd p) 0 33 A
  | wr (p : Nat) : WrWh A nb i d (.wr p) (Pi.wrN (ppA A p) d : Int) (Pi.wrE (ppA A p) d) (setPp A p (fun y => Pi.wrS y d))
  | tape (t : List UInt8) : WrWh A nb i d (.tape t) 0 33 A
  | sink (k : Nat) (t : List UInt8) : A.sk[k]? = some t → WrWh A nb i d (.sink k) (d.length : Int) 0 { A with sk := A.sk.set k (t ++ d) }
inductive WrtA (A : AS) (nb k : Nat) (fd : Int) (d : List UInt8) : Int → Int → AS → Prop
  | no : numL (row A k) fd = none → WrtA A nb k fd d 0 28 A
  | via (i : Nat) (t : Th) (N E : Int) (A' : AS) : numL (row A k) fd = some i → A.th[i]? = some t → WrWh A nb i d t.wh N E A' → WrtA A nb k fd d N E A'
def dupE (A : AS) (k : Nat) (a b : Int) : Int := if (numL (row A k) a).isSome && fdOk b then 0 else 28
def dupA (A : AS) (k : Nat) (a b : Int) : AS := match numL (row A k) a with | none => A | some i => if fdOk b && decide (a ≠ b) then takeA (dropA A k b) k b i else A
/-- A new sink; a new pipe; a new set. -/
def nwSk (A : AS) : AS := { A with sk := A.sk ++ [[]] }
def nwPp (A : AS) : AS := { A with pp := A.pp ++ [Pi.np0] }
def nwSt (A : AS) : AS := { A with st := A.st ++ [List.replicate 16 none] }
/-- What every state keeps to. -/
def holdsA (A : AS) (i : Nat) : Nat := (A.st.map (fun l => l.countP (fun o => decide (o = some i)))).sum
def WhOk (A : AS) : Wh → Prop
  | .file _ => False
  | .rd p => p < A.pp.length
  | .wr p => p < A.pp.length
  | .tape _ => False
  | .sink k => k < A.sk.length
def RowOk (A : AS) : Prop := ∀ (k : Nat) (l : List (Option Nat)), A.st[k]? = some l → l.length = 16 ∧ ∀ (j i : Nat), l[j]? = some (some i) → i < A.th.length
structure AOk (A : AS) (n : Nat) : Prop where
  row : RowOk A
  cnt : ∀ (i : Nat) (t : Th), A.th[i]? = some t → t.many = holdsA A i
  len : A.th.length ≤ n
  few : ∀ (i : Nat) (t : Th), A.th[i]? = some t → t.many ≤ n
  sks : A.sk.length ≤ n
  skl : ∀ (k : Nat) (s : List UInt8), A.sk[k]? = some s → s.length ≤ 100000 * n
  wh : ∀ (i : Nat) (t : Th), A.th[i]? = some t → WhOk A t.wh

end Go.Proofs.Ytemologkibcdoaa

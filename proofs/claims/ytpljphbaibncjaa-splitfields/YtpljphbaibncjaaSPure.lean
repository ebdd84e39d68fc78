/-
  What package split makes of pieces, plainly.
-/
import Derived.Test.YtpljphbaibncjaaGrw
namespace Go.Proofs.Ytpljphbaibncjaa
open Go.RowKit

structure Pc where
  text : List UInt8
  q : Bool
  s : Bool
  b : Bool
/-- A field: its bytes, and which are quoted. -/
abbrev Fd := List (UInt8 × Bool)
def ftx (f : Fd) : List UInt8 := f.map Prod.fst
def fqs (f : Fd) : List Bool := f.map Prod.snd
theorem ftx_len (f : Fd) : (ftx f).length = f.length := by simp [ftx]
theorem fqs_len (f : Fd) : (fqs f).length = f.length := by simp [fqs]
theorem ftx_app (f g : Fd) : ftx (f ++ g) = ftx f ++ ftx g := by simp [ftx]
theorem fqs_app (f g : Fd) : fqs (f ++ g) = fqs f ++ fqs g := by simp [fqs]
def qt (q : Bool) (t : List UInt8) : Fd := t.map fun c => (c, q)
theorem ftx_qt (q : Bool) : ∀ t : List UInt8, ftx (qt q t) = t
  | [] => rfl
  | c :: t => congrArg (c :: ·) (ftx_qt q t)
theorem fqs_qt (q : Bool) : ∀ t : List UInt8, fqs (qt q t) = List.replicate t.length q
  | [] => rfl
  | _ :: t => congrArg (q :: ·) (fqs_qt q t)
theorem qt_len (q : Bool) (t : List UInt8) : (qt q t).length = t.length := by simp [qt]

structure SS where
  out : List Fd
  made : Fd
  there : Bool
  mark : Bool
def ss0 : SS := ⟨[], [], false, false⟩
/-- 0: another byte, 1: a soft one, 2: a hard one. -/
def kindB (ifs : List UInt8) (c : UInt8) : Int := if ifs.contains c then (if c == 32 || c == 9 || c == 10 then 1 else 2) else 0
theorem kindB_is (ifs : List UInt8) (c : UInt8) : kindB ifs c = 0 ∨ kindB ifs c = 1 ∨ kindB ifs c = 2 := by
  unfold kindB
  split
  · split
    · exact .inr (.inl rfl)
    · exact .inr (.inr rfl)
  · exact .inl rfl
def endS (s : SS) : SS := ⟨s.out ++ [s.made], [], false, s.mark⟩
def offS (s : SS) : SS := { s with mark := false }
def onS (s : SS) : SS := { s with mark := true }
def addS (s : SS) (t : List UInt8) (q : Bool) : SS := ⟨s.out, s.made ++ qt q t, true, false⟩
def softS (s : SS) : SS := if s.there then onS (endS s) else s
def hardS (s : SS) : SS := if s.mark then offS s else offS (endS s)
def byteS (ifs : List UInt8) (s : SS) (c : UInt8) : SS := if kindB ifs c = 1 then softS s else if kindB ifs c = 2 then hardS s else addS s [c] false
def closeS (s : SS) : SS := if s.there then endS s else s
def pieceS (ifs : List UInt8) (s : SS) (p : Pc) : SS :=
  if p.b then offS (closeS s) else if p.q || (!p.s && !p.text.isEmpty) then addS s p.text p.q else p.text.foldl (byteS ifs) s
def runS (ifs : List UInt8) (l : List Pc) : SS := l.foldl (pieceS ifs) ss0
def fieldsL (ifs : List UInt8) (l : List Pc) : List Fd := (closeS (runS ifs l)).out
def oneP (p : Pc) : Fd := if p.b then [(32, false)] else qt p.q p.text
def oneL (l : List Pc) : Fd := l.flatMap oneP

/-- How many bytes, and how many fields. -/
def sizS (s : SS) : Nat := s.made.length + s.out.length
theorem sizS_end (s : SS) : sizS (endS s) ≤ sizS s + 1 := by simp [sizS, endS]
theorem sizS_close (s : SS) : sizS (closeS s) ≤ sizS s + 1 := by
  unfold closeS
  split
  · exact sizS_end s
  · omega
theorem sizS_byte (ifs : List UInt8) (s : SS) (c : UInt8) : sizS (byteS ifs s c) ≤ sizS s + 1 := by
  unfold byteS
  split
  · unfold softS
    split
    · exact sizS_end s
    · omega
  · split
    · unfold hardS
      split
      · show sizS s ≤ _; omega
      · exact sizS_end s
    · simp [sizS, addS, qt]; omega
theorem sizS_bytes (ifs : List UInt8) : ∀ (t : List UInt8) (s : SS), sizS (t.foldl (byteS ifs) s) ≤ sizS s + t.length
  | [], s => by simp
  | c :: t, s => by
    have := sizS_bytes ifs t (byteS ifs s c)
    have := sizS_byte ifs s c
    simp only [List.foldl_cons, List.length_cons]
    omega
theorem sizS_piece (ifs : List UInt8) (s : SS) (p : Pc) : sizS (pieceS ifs s p) ≤ sizS s + p.text.length + 1 := by
  unfold pieceS
  split
  · have := sizS_close s
    show sizS (closeS s) ≤ _
    omega
  · split
    · simp [sizS, addS, qt]; omega
    · have := sizS_bytes ifs p.text s
      omega
theorem sizS_run (ifs : List UInt8) (M : Nat) : ∀ (l : List Pc) (s : SS), (∀ p ∈ l, p.text.length ≤ M) → sizS (l.foldl (pieceS ifs) s) ≤ sizS s + l.length * (M + 1)
  | [], s, _ => by simp
  | p :: l, s, h => by
    have h1 := sizS_run ifs M l (pieceS ifs s p) (fun x hx => h x (by simp [hx]))
    have h2 := sizS_piece ifs s p
    have h3 := h p (by simp)
    simp only [List.foldl_cons, List.length_cons, Nat.add_mul, Nat.one_mul]
    omega

end Go.Proofs.Ytpljphbaibncjaa

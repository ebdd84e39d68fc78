/- The program's parser, in pure form: a state (tokens left, what is wrong, how deep), and what each of its functions makes of it.; The parser's state in memory.; The parser's tokens: more, next, take, fail, misfit, sees, skip, want. -/
import Derived.Test.YtojjfdobilkknaaGreatDoorM05
import Derived.Test.YtojjfdobilkknaaGreatDoorM09
import Derived.Test.YtojjfdobilkknaaGreatDoorM04
import Derived.Laws.ResultCell
import Derived.Laws.Rows
import Derived.Deep.Cut
import Derived.Laws.Slices
set_option maxRecDepth 20000
set_option maxHeartbeats 1000000
namespace Go.Proofs.YtojjfdobilkknaaGreatDoor
abbrev Wd := List Prt
inductive Cm where
 | mk (kind : Int) (not : Bool) (lets : List (List UInt8 × Wd)) (words : List Wd) (redirs : List (Int × Int × Wd)) (cmds : List Cm) (name : List UInt8) (every : Bool) (items : List (List Wd × List Cm))
def cm0 : Cm := .mk 0 false [] [] [] [] [] false []
def Cm.kind : Cm → Int
 | .mk k _ _ _ _ _ _ _ _ => k
def Cm.redirs : Cm → List (Int × Int × Wd)
 | .mk _ _ _ _ r _ _ _ _ => r
def Cm.setRedirs (r : List (Int × Int × Wd)) : Cm → Cm
 | .mk k n l w _ c m e i => .mk k n l w r c m e i
structure Pz where
 toks : List Tok
 deep : Nat
 size : Int
 be : Int
 bp : Int
 we : Int
 wp : Int
def tok0 : Tok := ⟨0, ⟨#[]⟩, 0, ⟨#[]⟩, false⟩
namespace Pz
def more (s : Pz) : Bool := !s.toks.isEmpty
def next (s : Pz) : Tok := s.toks.head?.getD tok0
def fail (s : Pz) (e p : Int) : Pz := if s.we = 0 then { s with toks := [], we := e, wp := p } else s
def take (s : Pz) : Pz := { s with toks := s.toks.tail }
def misfit (s : Pz) : Pz := if s.more then s.fail 10 s.next.pos else if s.be ≠ 0 then s.fail s.be s.bp else s.fail 10 s.size
def sees (s : Pz) (l : List ByteArray) : Bool := l.any fun t => decide (s.next.text = t)
def skips (s : Pz) (t : ByteArray) : Pz := if s.sees [t] then s.take else s
def want (s : Pz) (t : ByteArray) : Pz := if s.sees [t] then s.take else s.misfit
def nl : ByteArray := ⟨#[10]⟩
def semi : ByteArray := ⟨#[59]⟩
def gapN : Nat → Pz → Pz
 | 0, s => s
 | n + 1, s => if s.sees [nl] then gapN n s.take else s
def gap (s : Pz) : Pz := gapN s.toks.length s
def ends (s : Pz) : Bool := s.sees [semi] || s.sees [nl]
def endS (s : Pz) : Pz := if s.ends then s.take.gap else s
def seesWord (s : Pz) : Bool := decide (s.next.kind = 1)
def wantWord (s : Pz) : Tok × Pz := let s' := if s.seesWord then s else s.misfit; (s'.next, s'.take)
def parts (s : Pz) (way : Nat) (t : ByteArray) (p : Int) : Wd × Pz :=
 let r := wrdL true way t.data.toList
 (r.parts, if r.errno = 0 then s else s.fail r.errno p)
def word (s : Pz) : Wd × Pz := let x := s.wantWord; x.2.parts 0 x.1.text x.1.pos
end Pz
def letN (t : List UInt8) : List UInt8 := if (t.drop (frontN t)).head? = some 61 then t.take (frontN t) else []
def isName (t : List UInt8) : Bool := decide (0 < t.length) && decide (frontN t = t.length)
def digN : Int → List UInt8 → Int × Int
 | n, [] => (n, 0)
 | n, c :: r => if (999 - ((c.toNat : Int) - 48)) / 10 < n then (0, 3) else digN (10 * n + ((c.toNat : Int) - 48)) r
def numN (t : List UInt8) : Int × Int := if t = [] ∨ spanN digB t < t.length then (0, 10) else digN 0 t
def signs : List (ByteArray × Int × Int) := [(⟨#[60]⟩, 1, 0), (⟨#[62]⟩, 2, 1), (⟨#[62, 62]⟩, 3, 1), (⟨#[60, 62]⟩, 4, 0), (⟨#[60, 38]⟩, 5, 0), (⟨#[62, 38]⟩, 5, 1), (⟨#[60, 60]⟩, 6, 0), (⟨#[60, 60, 45]⟩, 6, 0)]
def redirOf (t : ByteArray) : Int × Int := match signs.find? (fun x => decide (x.1 = t)) with
 | some x => (x.2.2, x.2.1)
 | none => (0, 0)
namespace Pz
def seesRedir (s : Pz) : Bool := decide (s.next.kind = 4) || s.sees (signs.map (·.1))
def number (s : Pz) : Int × Pz := let r := numN s.next.text.data.toList; (r.1, if r.2 = 0 then s.take else s.take.fail r.2 s.next.pos)
def inPlace (s : Pz) (o : Tok) : Wd × Pz := let x := s.wantWord; if o.raw then ([litP o.body.data.toList true], x.2) else x.2.parts 5 o.body o.pos
def redir (s : Pz) : (Int × Int × Wd) × Pz :=
 let io := decide (s.next.kind = 4)
 let n := if io then s.number else (0, s)
 let o := n.2.next
 let r := redirOf o.text
 let w := if r.2 = 6 then n.2.take.inPlace o else n.2.take.word
 ((if io then n.1 else r.1, r.2, w.1), w.2)
def redirsN : Nat → Pz → List (Int × Int × Wd) × Pz
 | 0, s => ([], s)
 | n + 1, s => if s.seesRedir then let r := s.redir; let q := redirsN n r.2; (r.1 :: q.1, q.2) else ([], s)
def redirs (s : Pz) : List (Int × Int × Wd) × Pz := redirsN s.toks.length s
def lets (s : Pz) : (List UInt8 × Wd) × Pz :=
 let t := s.next
 let m := letN t.text.data.toList
 let w := s.take.parts 0 (BA (t.text.data.toList.drop (m.length + 1))) t.pos
 ((m, w.1), w.2)
structure Smp where
 lets : List (List UInt8 × Wd)
 words : List Wd
 redirs : List (Int × Int × Wd)
def simpleN : Nat → Smp → Pz → Smp × Pz
 | 0, c, s => (c, s)
 | n + 1, c, s =>
   if s.seesRedir then let r := s.redir; simpleN n { c with redirs := c.redirs ++ [r.1] } r.2
   else if c.words.isEmpty && !(letN s.next.text.data.toList).isEmpty then let r := s.lets; simpleN n { c with lets := c.lets ++ [r.1] } r.2
   else if s.seesWord then let r := s.word; simpleN n { c with words := c.words ++ [r.1] } r.2
   else (c, s)
def simple (s : Pz) : Cm × Pz :=
 if s.seesWord || s.seesRedir then let r := simpleN s.toks.length ⟨[], [], []⟩ s; (.mk 1 false r.1.lets r.1.words r.1.redirs [] [] false [], r.2)
 else (.mk 1 false [] [] [] [] [] false [], s.misfit)
def name (s : Pz) : List UInt8 × Pz := let s' := if isName s.next.text.data.toList then s else s.misfit; (s'.next.text.data.toList, s'.take)
def wordsN : Nat → Pz → List Wd × Pz
 | 0, s => ([], s)
 | n + 1, s => if s.seesWord then let r := s.word; let q := wordsN n r.2; (r.1 :: q.1, q.2) else ([], s)
def words (s : Pz) : List Wd × Pz := wordsN s.toks.length s
end Pz
def seqC (l : List Cm) : Cm := match l with
 | [c] => c
 | l => .mk 5 false [] [] [] l [] false []
def kAnd : ByteArray := ⟨#[38, 38]⟩
def kOr : ByteArray := ⟨#[124, 124]⟩
def kBar : ByteArray := ⟨#[124]⟩
def kNot : ByteArray := ⟨#[33]⟩
def kLp : ByteArray := ⟨#[40]⟩
def kRp : ByteArray := ⟨#[41]⟩
def kLb : ByteArray := ⟨#[123]⟩
def kRb : ByteArray := ⟨#[125]⟩
def kIf : ByteArray := ⟨#[105, 102]⟩
def kThen : ByteArray := ⟨#[116, 104, 101, 110]⟩
def kElif : ByteArray := ⟨#[101, 108, 105, 102]⟩
def kElse : ByteArray := ⟨#[101, 108, 115, 101]⟩
def kFi : ByteArray := ⟨#[102, 105]⟩
def kWhile : ByteArray := ⟨#[119, 104, 105, 108, 101]⟩
def kUntil : ByteArray := ⟨#[117, 110, 116, 105, 108]⟩
def kDo : ByteArray := ⟨#[100, 111]⟩
def kDone : ByteArray := ⟨#[100, 111, 110, 101]⟩
def kFor : ByteArray := ⟨#[102, 111, 114]⟩
def kIn : ByteArray := ⟨#[105, 110]⟩
def kCase : ByteArray := ⟨#[99, 97, 115, 101]⟩
def kEsac : ByteArray := ⟨#[101, 115, 97, 99]⟩
def kDsemi : ByteArray := ⟨#[59, 59]⟩
def stops : List ByteArray := [kThen, kElse, kElif, kFi, kDo, kDone, kEsac, kRb, kRp, kDsemi]
def reserved : List ByteArray := [kNot, kRb, kDo, kDone, kElif, kElse, kEsac, kFi, kThen]
namespace Pz
abbrev Rdl := Pz → Cm × Pz
def seesFunc (s : Pz) : Bool := isName s.next.text.data.toList && (match s.toks with
 | _ :: t :: _ => decide (t.text = kLp)
 | _ => false)
def within (r : Rdl) (s : Pz) : Cm × Pz := if s.deep = 40 then (cm0, s.fail 3 s.next.pos) else let x := r { s with deep := s.deep + 1 }; (x.1, { x.2 with deep := x.2.deep - 1 })
def enclosed (lst : Rdl) (kind : Int) (c : ByteArray) (s : Pz) : Cm × Pz := let x := lst s.take; (.mk kind false [] [] [] [x.1] [] false [], x.2.want c)
def branchesN (lst : Rdl) : Nat → Pz → Cm × Pz
 | 0, s => (cm0, s)
 | n + 1, s =>
   let a := lst s.take
   let b := lst (a.2.want kThen)
   if b.2.sees [kElif] then let c := branchesN lst n b.2; (.mk 8 false [] [] [] [a.1, b.1, c.1] [] false [], c.2)
   else if b.2.sees [kElse] then let c := lst b.2.take; (.mk 8 false [] [] [] [a.1, b.1, c.1] [] false [], c.2.want kFi)
   else (.mk 8 false [] [] [] [a.1, b.1] [] false [], b.2.want kFi)
def branches (lst : Rdl) (s : Pz) : Cm × Pz := branchesN lst s.toks.length s
def doGroup (lst : Rdl) (s : Pz) : Cm × Pz := let x := lst (s.want kDo); (x.1, x.2.want kDone)
def loop (lst : Rdl) (kind : Int) (s : Pz) : Cm × Pz := let a := lst s.take; let b := a.2.doGroup lst; (.mk kind false [] [] [] [a.1, b.1] [] false [], b.2)
def each (lst : Rdl) (s : Pz) : Cm × Pz :=
 let m := s.take.name
 let ev := m.2.sees [semi]
 let s1 := (m.2.skips semi).gap
 if !ev && s1.sees [kIn] then
  let ws := s1.take.words
  let s2 := if ws.2.ends then ws.2.endS else ws.2.misfit
  let b := s2.doGroup lst
  (.mk 11 false [] ws.1 [] [b.1] m.1 false [], b.2)
 else
  let b := s1.doGroup lst
  (.mk 11 false [] [] [] [b.1] m.1 true [], b.2)
def altsN : Nat → Pz → List Wd × Pz
 | 0, s => ([], s)
 | n + 1, s => if s.sees [kBar] then let r := s.take.word; let q := altsN n r.2; (r.1 :: q.1, q.2) else ([], s)
def item (lst : Rdl) (s : Pz) : (List Wd × List Cm) × Pz :=
 let w := (s.skips kLp).word
 let a := altsN w.2.toks.length w.2
 let s1 := (a.2.want kRp).gap
 if s1.sees [kDsemi, kEsac] then ((w.1 :: a.1, []), s1) else let b := lst s1; ((w.1 :: a.1, [b.1]), b.2)
def itemsN (lst : Rdl) : Nat → Pz → List (List Wd × List Cm) × Pz
 | 0, s => ([], s)
 | n + 1, s =>
   if s.sees [kEsac] then ([], s)
   else
    let i := s.item lst
    if i.2.sees [kDsemi] then let q := itemsN lst n i.2.take.gap; (i.1 :: q.1, q.2) else ([i.1], i.2)
def choice (lst : Rdl) (s : Pz) : Cm × Pz :=
 let w := s.take.word
 let s1 := (w.2.gap.want kIn).gap
 let i := itemsN lst (s1.toks.length + 1) s1
 (.mk 12 false [] [w.1] [] [] [] false i.1, i.2.want kEsac)
def beginOf (lst : Rdl) (t : ByteArray) : Option Rdl :=
 if t = kLp then some (enclosed lst 7 kRp) else if t = kLb then some (enclosed lst 6 kRb) else if t = kIf then some (branches lst) else if t = kWhile then some (loop lst 9) else if t = kUntil then some (loop lst 10)
 else if t = kFor then some (each lst) else if t = kCase then some (choice lst) else none
def compound (lst : Rdl) (s : Pz) : Cm × Pz := match beginOf lst s.next.text with
 | none => (cm0, s.misfit)
 | some r => let c := within r s; let q := c.2.redirs; (c.1.setRedirs q.1, q.2)
def function (lst : Rdl) (s : Pz) : Cm × Pz :=
 let m := s.name
 let b := (((m.2.want kLp).want kRp).gap).compound lst
 (.mk 13 false [] [] b.1.redirs [b.1.setRedirs []] m.1 false [], b.2)
def command (lst : Rdl) (s : Pz) : Cm × Pz :=
 if (beginOf lst s.next.text).isSome then s.compound lst
 else if s.sees reserved then (cm0, s.misfit)
 else if s.seesFunc then within (function lst) s
 else s.simple
def pipesN (lst : Rdl) : Nat → Pz → List Cm × Pz
 | 0, s => ([], s)
 | n + 1, s => if s.sees [kBar] then let c := s.take.gap.command lst; let q := pipesN lst n c.2; (c.1 :: q.1, q.2) else ([], s)
def pipeline (lst : Rdl) (s : Pz) : Cm × Pz :=
 let no := s.sees [kNot]
 let c := (s.skips kNot).command lst
 let q := pipesN lst c.2.toks.length c.2
 (if q.1.isEmpty && !no then c.1 else .mk 2 no [] [] [] (c.1 :: q.1) [] false [], q.2)
def andOrN (lst : Rdl) : Nat → Cm → Pz → Cm × Pz
 | 0, c, s => (c, s)
 | n + 1, c, s => if s.sees [kAnd, kOr] then let r := s.take.gap.pipeline lst; andOrN lst n (.mk (if s.next.text = kAnd then 3 else 4) false [] [] [] [c, r.1] [] false []) r.2 else (c, s)
def andOr (lst : Rdl) (s : Pz) : Cm × Pz := let c := s.pipeline lst; andOrN lst c.2.toks.length c.1 c.2
def goesOn (s : Pz) : Bool := s.more && !s.sees stops
def moreN (lst : Rdl) : Nat → Pz → List Cm × Pz
 | 0, s => ([], s)
 | n + 1, s => if s.ends then (if s.endS.goesOn then let c := s.endS.andOr lst; let q := moreN lst n c.2; (c.1 :: q.1, q.2) else ([], s.endS)) else ([], s)
def listG (lst : Rdl) (s : Pz) : Cm × Pz := let c := s.gap.andOr lst; let q := moreN lst (c.2.toks.length + 1) c.2; (seqC (c.1 :: q.1), q.2)
def list : Nat → Pz → Cm × Pz
 | 0, s => (cm0, s)
 | n + 1, s => listG (list n) s
def lineN (lst : Rdl) : Nat → Pz → List Cm × Pz
 | 0, s => ([], s)
 | n + 1, s => if s.sees [semi] then (if s.take.more && !s.take.sees [nl] then let c := s.take.andOr lst; let q := lineN lst n c.2; (c.1 :: q.1, q.2) else ([], s.take)) else ([], s)
def lineEnd (s : Pz) : Pz := if s.more then s.want nl else s.fail s.be s.bp
def line (lst : Rdl) (s : Pz) : Cm × Pz := let c := s.andOr lst; let q := lineN lst (c.2.toks.length + 1) c.2; (seqC (c.1 :: q.1), q.2.lineEnd)
def linesN (lst : Rdl) : Nat → Pz → List Cm × Pz
 | 0, s => ([], s)
 | n + 1, s => if s.more then let c := s.line lst; let q := linesN lst n c.2.gap; ((if c.2.we = 0 then [c.1] else []) ++ q.1, q.2) else ([], s)
end Pz
def prsL (l : List UInt8) : List Cm × Int × Int :=
 let x := lexL l
 let s : Pz := ⟨x.1, 0, l.length, x.2.2, x.2.1, 0, 0⟩
 let r := Pz.linesN (Pz.list (x.1.length + 1)) (x.1.length + 1) s.gap
 (r.1, r.2.lineEnd.wp, r.2.lineEnd.we)
end Go.Proofs.YtojjfdobilkknaaGreatDoor
namespace Go.Proofs.YtojjfdobilkknaaGreatDoor
open Go.RowKit
theorem blk_ne' {w : World} {a b : Nat} {t u : TypeId} {cs ds : Array Value} (h1 : Blk w a t cs) (h2 : Blk w b u ds) (hne : t ≠ u) : a ≠ b := by
 rintro rfl
 have h3 := (show w.heap[a]? = _ from h1).symm.trans h2
 injection h3 with h3
 injection h3 with _ h4 _
 exact hne h4
def TkRow (w : World) (b : Nat) (v : Value) (ts : List Tok) : Prop := ∃ ad cap, v = .slice ad ts.length cap ∧ ts.length ≤ cap ∧ cap ≤ 9223372036854775807 ∧ (ts = [] ∨ ∃ g o cs, ad = some ⟨g, o, none⟩ ∧ g < b ∧ Blk w g 74 cs ∧ ∀ (i : Nat) (t : Tok), ts[i]? = some t → ∀ (j : Nat) (x : Value), t.cells[j]? = some x → cs[o + i * 5 + j]? = some x)
theorem TkRow.grownS {w w' : World} {b : Nat} {v : Value} {ts : List Tok} {S : Nat → Prop} (h : TkRow w b v ts) (hg : GrownS w w' S) (hs : ∀ k, S k → b ≤ k) : TkRow w' b v ts := by
 obtain ⟨ad, cap, h1, h2, h3, h4⟩ := h
 refine ⟨ad, cap, h1, h2, h3, ?_⟩
 rcases h4 with h4 | ⟨g, o, ds, h5, h0, h6, h7⟩
 ·exact .inl h4
 ·exact .inr ⟨g, o, ds, h5, h0, h6.grownS hg (fun e => by have := hs g e; omega), h7⟩
theorem TkRow.nil (w : World) (b : Nat) (ad : Option Addr) (cap : Nat) (hc : cap ≤ 9223372036854775807) : TkRow w b (.slice ad 0 cap) [] := ⟨ad, cap, rfl, Nat.zero_le _, hc, .inl rfl⟩
structure PzOk (s : Pz) : Prop where
 few : s.toks.length ≤ 100000
 texts : ∀ t ∈ s.toks, t.text.size ≤ 100000 ∧ t.body.size ≤ 100000
 deep : s.deep ≤ 40
def pzC (v mp : Value) (s : Pz) : Array Value := #[v, mp, .int .i64 (s.deep : Int), .int .i64 s.size, .int .i64 s.be, .int .i64 s.bp, .int .i64 s.we, .int .i64 s.wp]
structure PzAt (w : World) (b : Nat) (mp : Value) (s : Pz) : Prop where
 ok : PzOk s
 lies : ∃ v, Blk w b 47 (pzC v mp s) ∧ TkRow w b v s.toks
abbrev Fr (w w' : World) (b : Nat) : Prop := GrownS w w' (fun k => k = b)
theorem fr_refl (w : World) (b : Nat) : Fr w w b := gsb (Below.refl _ _)
theorem PzAt.grownS {w w' : World} {b : Nat} {mp : Value} {s : Pz} {S : Nat → Prop} (h : PzAt w b mp s) (hg : GrownS w w' S) (hs : ∀ k, S k → b < k) : PzAt w' b mp s := by
 obtain ⟨ho, v, h1, h2⟩ := h
 exact ⟨ho, v, h1.grownS hg (fun e => by have := hs b e; omega), h2.grownS hg (fun k e => lel (hs k e))⟩
theorem PzAt.below {w w' : World} {b : Nat} {mp : Value} {s : Pz} (h : PzAt w b mp s) (hb : Below w.heap.size w w') : PzAt w' b mp s := h.grownS (S := fun _ => False) (gsb hb) (fun _ e => e.elim)
theorem PzAt.lt {w : World} {b : Nat} {mp : Value} {s : Pz} (h : PzAt w b mp s) : b < w.heap.size := by
 obtain ⟨_, v, h1, _⟩ := h
 exact h1.lt
theorem PzOk.fail {s : Pz} (h : PzOk s) (e p : Int) : PzOk (s.fail e p) := by
 unfold Pz.fail
 split
 ·exact ⟨Nat.zero_le _, fun t ht => (by cases ht), h.deep⟩
 ·exact h
theorem PzOk.take {s : Pz} (h : PzOk s) : PzOk s.take :=
 ⟨by have := h.few; unfold Pz.take; simp; omega, fun t ht => h.texts t (List.mem_of_mem_tail ht), h.deep⟩
theorem PzOk.misfit {s : Pz} (h : PzOk s) : PzOk s.misfit := by
 unfold Pz.misfit
 split
 ·exact h.fail _ _
 ·split
  ·exact h.fail _ _
  ·exact h.fail _ _
theorem PzOk.next {s : Pz} (h : PzOk s) : s.next.text.size ≤ 100000 ∧ s.next.body.size ≤ 100000 := by
 unfold Pz.next
 cases hs : s.toks with
 | nil => exact ⟨by decide, by decide⟩
 | cons t r => exact h.texts t (by rw [hs]; exact List.mem_cons_self ..)
theorem size_token (w : World) : (sizeOf 74).run Tryz.prog w = .ok 5 w := by kernel_rfl
theorem TkRow.head {w : World} {b : Nat} {v : Value} {t : Tok} {r : List Tok} (h : TkRow w b v (t :: r)) : ∃ g o cap, v = .slice (some ⟨g, o, none⟩) (r.length + 1) cap ∧ r.length + 1 ≤ cap ∧ cap ≤ 9223372036854775807 ∧ w.cell? ⟨g, o, none⟩ = some (.int .i64 t.kind) ∧ w.cell? ⟨g, o + 1, none⟩ = some (.string t.text) ∧ w.cell? ⟨g, o + 2, none⟩ = some (.int .i64 t.pos) ∧ w.cell? ⟨g, o + 3, none⟩ = some (.string t.body) ∧ w.cell? ⟨g, o + 4, none⟩ = some (.bool t.raw) := by
 obtain ⟨ad, cap, rfl, h2, h3, h4 | ⟨g, o, ds, rfl, _, h6, h7⟩⟩ := h
 ·cases h4
 ·have h8 := h7 0 t rfl
  rw [Nat.zero_mul, Nat.add_zero] at h8
  exact ⟨g, o, cap, rfl, h2, h3, h6.cell o (h8 0 _ rfl), h6.cell _ (h8 1 _ rfl), h6.cell _ (h8 2 _ rfl), h6.cell _ (h8 3 _ rfl), h6.cell _ (h8 4 _ rfl)⟩
theorem pmore_any (w : World) (b : Nat) (mp : Value) (s : Pz) (H : PzAt w b mp s) : Calls Tryz.prog 11 #[.pointer (some ⟨b, 0, none⟩)] w fun e w' => e = .returned (.bool s.more) ∧ w' = w := by
 obtain ⟨ho, v, h1, ad, cap, rfl, h3, h4, _⟩ := H
 have q0 : w.cell? ⟨b, 0, none⟩ = some (.slice ad s.toks.length cap) := h1.cell 0 rfl
 have hf := ho.few
 cases hs : s.toks with
 | nil =>
   rw [show s.more = false by unfold Pz.more; rw [hs]; rfl]
   rw [hs] at q0
   clear h1 hs
   go_enter Tryz.func11, Tryz.ntmps11
   go_wp2
   go_ret
   exact ⟨rfl, rfl⟩
 | cons t r =>
   rw [show s.more = true by unfold Pz.more; rw [hs]; rfl]
   rw [hs, List.length_cons] at q0
   have hk : (0 : Int) < (r.length : Int) + 1 := by omega
   clear h1 hs
   go_enter Tryz.func11, Tryz.ntmps11
   go_wp2
   go_ret
   exact ⟨rfl, rfl⟩
theorem pnext_any (w : World) (b : Nat) (mp : Value) (s : Pz) (H : PzAt w b mp s) : Calls Tryz.prog 66 #[.pointer (some ⟨b, 0, none⟩)] w fun e w' => e = .returned (.agg s.next.cells) ∧ Below w.heap.size w w' := by
 have HM : Hid (Calls Tryz.prog 11 #[.pointer (some ⟨b, 0, none⟩)] (w.alloc (.cells #[.int .i64 0, .string ⟨#[]⟩, .int .i64 0, .string ⟨#[]⟩, .bool false] 74)) fun e w' => e = .returned (.bool s.more) ∧ w' = w.alloc (.cells #[.int .i64 0, .string ⟨#[]⟩, .int .i64 0, .string ⟨#[]⟩, .bool false] 74)) := hide (pmore_any _ b mp s (H.below ((Below.refl _ _).alloc (ler _) _)))
 obtain ⟨ho, v, h1, hr⟩ := H
 have hbl : b ≠ w.heap.size := Nat.ne_of_lt h1.lt
 have q1 : (w.alloc (.cells #[.int .i64 0, .string ⟨#[]⟩, .int .i64 0, .string ⟨#[]⟩, .bool false] 74)).cell? ⟨b, 0, none⟩ = some v := (h1.alloc (.cells #[.int .i64 0, .string ⟨#[]⟩, .int .i64 0, .string ⟨#[]⟩, .bool false] 74)).cell 0 rfl
 cases hs : s.toks with
 | nil =>
   rw [show s.more = false by unfold Pz.more; rw [hs]; rfl] at HM
   rw [show s.next = tok0 by unfold Pz.next; rw [hs]; rfl]
   clear h1 hr hs q1
   go_enter Tryz.func66, Tryz.ntmps66
   go_wp2_with fail
   refine (uh HM).mono ?_
   rintro e w1 ⟨rfl, hw1⟩
   rw [hw1]
   clear hw1
   go_wp2
   refine bodyPost_ret (results_cell_row (P := Tryz.prog) rfl _ _ w.heap.size 74 _ (0, 0) _ rfl (heap_alloc_new _ _) Tryz.underlying74 rfl (by kernel_rfl)) rfl ⟨rfl, (Below.refl _ w).alloc (ler _) _⟩
 | cons t r =>
   rw [show s.more = true by unfold Pz.more; rw [hs]; rfl] at HM
   rw [show s.next = t by unfold Pz.next; rw [hs]; rfl]
   rw [hs] at hr
   obtain ⟨g, o, cap, rfl, h2, h3, c0, c1, c2, c3, c4⟩ := hr.head
   have hgl : g ≠ w.heap.size := Nat.ne_of_lt (by
    rcases Nat.lt_or_ge g w.heap.size with h | h
    ·exact h
    ·simp [World.cell?, Array.getElem?_eq_none h] at c0)
   have d0 := cell_alloc c0 (.cells #[.int .i64 0, .string ⟨#[]⟩, .int .i64 0, .string ⟨#[]⟩, .bool false] 74)
   have d1 := cell_alloc c1 (.cells #[.int .i64 0, .string ⟨#[]⟩, .int .i64 0, .string ⟨#[]⟩, .bool false] 74)
   have d2 := cell_alloc c2 (.cells #[.int .i64 0, .string ⟨#[]⟩, .int .i64 0, .string ⟨#[]⟩, .bool false] 74)
   have d3 := cell_alloc c3 (.cells #[.int .i64 0, .string ⟨#[]⟩, .int .i64 0, .string ⟨#[]⟩, .bool false] 74)
   have d4 := cell_alloc c4 (.cells #[.int .i64 0, .string ⟨#[]⟩, .int .i64 0, .string ⟨#[]⟩, .bool false] 74)
   have hk : (0 : Int) < (r.length : Int) + 1 := by omega
   clear h1 hr hs c0 c1 c2 c3 c4
   go_enter Tryz.func66, Tryz.ntmps66
   go_wp2_with fail
   refine (uh HM).mono ?_
   rintro e w1 ⟨rfl, hw1⟩
   rw [hw1]
   clear hw1
   go_wp2
   refine bodyPost_ret (results_cell_row (P := Tryz.prog) rfl _ _ w.heap.size 74 _ (0, 0) _ rfl (heap_alloc_new _ _) Tryz.underlying74 rfl (by kernel_rfl)) rfl ⟨rfl, (Below.refl _ w).alloc (ler _) _⟩
theorem pis_any (e p : Int) (w : World) : Calls Tryz.prog 13 #[.agg #[.int .i64 e, .int .i64 p]] w fun x w' => x = .returned (.bool (e != 0)) ∧ Below w.heap.size w w' := by
 go_enter Tryz.func13, Tryz.ntmps13
 go_wp2
 go_ret
 exact ⟨rfl, (Below.refl _ w).alloc (ler _) _⟩
theorem TkRow.tail {w : World} {b g o cap : Nat} {t : Tok} {r : List Tok} (h : TkRow w b (.slice (some ⟨g, o, none⟩) (r.length + 1) cap) (t :: r)) : TkRow w b (sliced (some ⟨g, o, none⟩) 1 (r.length + 1) cap 5) r := by
 obtain ⟨ad, cap', he, h2, h3, h4 | ⟨g', o', ds, h5, h0, h6, h7⟩⟩ := h
 ·cases h4
 ·cases he
  cases h5
  rw [List.length_cons] at h2
  unfold sliced
  refine ⟨_, cap - 1, rfl, by omega, by omega, ?_⟩
  cases r with
  | nil => exact .inl rfl
  | cons t2 r2 =>
    rw [List.length_cons] at h2
    have hne : ¬ cap = 1 := by omega
    refine .inr ⟨g, o + 5, ds, ?_, h0, h6, fun i x hx j y hy => ?_⟩
    ·simp [hne, Addr.add]
    ·have := h7 (i + 1) x (by simpa using hx) j y hy
     rwa [show o + (i + 1) * 5 + j = o + 5 + i * 5 + j by omega] at this
theorem fr_set (w : World) (b j : Nat) (v : Value) : Fr w (w.setCell ⟨b, j, none⟩ v) b := GrownS.of (gsc w ⟨b, j, none⟩ v) (fun k e => by simpa using e)
theorem tset_far {w : World} {b g i j : Nat} {v u : Value} (h : b ≠ g) (hc : w.cell? ⟨g, j, none⟩ = some u) : (w.setCell ⟨b, i, none⟩ v).cell? ⟨g, j, none⟩ = some u := (gsc w ⟨b, i, none⟩ v).cell hc (fun e => h (by simpa using e.symm))
theorem frozen_far {w : World} {b g i : Nat} {v : Value} (h : b ≠ g) (j : Nat) : (w.setCell ⟨b, i, none⟩ v).frozen? ⟨g, j, none⟩ = w.frozen? ⟨g, j, none⟩ := World.frozen?_of_block (Below.heap_setCell _ _ _ _ (fun e => h e.symm))
def T5 (w : World) (g : Nat) (t : Tok) : World := ((((w.setCell ⟨g, 0, none⟩ (.int .i64 t.kind)).setCell ⟨g, 1, none⟩ (.string t.text)).setCell ⟨g, 2, none⟩ (.int .i64 t.pos)).setCell ⟨g, 3, none⟩ (.string t.body)).setCell ⟨g, 4, none⟩ (.bool t.raw)
theorem T5_blk {w : World} {g : Nat} {x0 x1 x2 x3 x4 : Value} (h : Blk w g 74 #[x0, x1, x2, x3, x4]) (t : Tok) : Blk (T5 w g t) g 74 t.cells := ((((h.set 0 _).set 1 _).set 2 _).set 3 _).set 4 _
theorem T5_grown (w : World) (g : Nat) (t : Tok) : GrownS w (T5 w g t) (fun k => k = g) := ((((fr_set w g 0 _).trans (fr_set _ g 1 _)).trans (fr_set _ g 2 _)).trans (fr_set _ g 3 _)).trans (fr_set _ g 4 _)
def Leg (n b : Nat) (w w' : World) : Prop := GrownS w w' (fun k => k = b ∨ n ≤ k)
theorem leg_below {n b : Nat} {w w' : World} (h : Below w.heap.size w w') : Leg n b w w' := gsb h
theorem leg_new {n b g : Nat} {w w' : World} (h : GrownS w w' (fun k => k = g)) (hg : n ≤ g) : Leg n b w w' := h.mono (fun _ _ e => .inr (by rw [e]; exact hg))
theorem leg_fr {n b : Nat} {w w' : World} (h : Fr w w' b) : Leg n b w w' := h.mono (fun _ _ e => .inl e)
theorem Leg.fr {b : Nat} {w w' : World} (h : Leg w.heap.size b w w') : Fr w w' b := GrownS.mono h (fun _ hk e => by rcases e with e | e; exact e; omega)
theorem Leg.trans {n b : Nat} {w w1 w2 : World} (h : Leg n b w w1) (h2 : Leg n b w1 w2) : Leg n b w w2 := GrownS.trans h h2
theorem PzAt.fin {w F : World} {b : Nat} {mp u : Value} {s' : Pz} (hf : Fr w F b) (hF : Blk F b 47 (pzC u mp s')) (ho : PzOk s') (hr : TkRow w b u s'.toks) : PzAt F b mp s' :=
 ⟨ho, u, hF, hr.grownS hf (fun k e => by omega)⟩
theorem ptake_any (w : World) (b : Nat) (mp : Value) (s : Pz) (H : PzAt w b mp s) : Calls Tryz.prog 55 #[.pointer (some ⟨b, 0, none⟩)] w fun e w' => e = .returned (.agg s.next.cells) ∧ PzAt w' b mp s.take ∧ Fr w w' b := by
 obtain ⟨W1, hW1⟩ : ∃ W1, W1 = w.alloc (.cells #[.int .i64 0, .string ⟨#[]⟩, .int .i64 0, .string ⟨#[]⟩, .bool false] 74) := ⟨_, rfl⟩
 have hb1 : Below w.heap.size w W1 := by rw [hW1]; exact (Below.refl _ _).alloc (ler _) _
 have HN := hide (pnext_any W1 b mp s (H.below hb1))
 have HW1 := hide hW1
 have hnb : Blk W1 w.heap.size 74 #[.int .i64 0, .string ⟨#[]⟩, .int .i64 0, .string ⟨#[]⟩, .bool false] := by rw [hW1]; exact Blk.new _ _ _
 obtain ⟨nb, hnbe⟩ : ∃ nb, nb = w.heap.size := ⟨_, rfl⟩
 rw [← hnbe] at hnb
 have HNB := hide hnbe
 have HK := hide hnb
 have HB1 := hide hb1
 have HH := hide H
 have hfew := H.ok.few
 obtain ⟨t, ht⟩ : ∃ t, t = s.next := ⟨_, rfl⟩
 rw [← ht] at HN ⊢
 have HTE := hide ht
 unfold Tok.cells at HN
 clear hW1 hb1 hnb hnbe H ht
 go_enter Tryz.func55, Tryz.ntmps55
 go_upto_region 1 with fail
 rw [← uh HW1, ← uh HNB]
 go_wp2_with fail
 refine (uh HN).mono ?_
 rintro e w2 ⟨rfl, b2⟩
 obtain ⟨W3, hW3⟩ : ∃ W3, W3 = w2.alloc (.cells #[.int .i64 t.kind, .string t.text, .int .i64 t.pos, .string t.body, .bool t.raw] 74) := ⟨_, rfl⟩
 obtain ⟨nt, hnt⟩ : ∃ nt, nt = w2.heap.size := ⟨_, rfl⟩
 have hb3 : Below w2.heap.size w2 W3 := by rw [hW3]; exact (Below.refl _ _).alloc (ler _) _
 have HB3 : Hid (Below w.heap.size w W3) := hide (((uh HB1).trans (b2.mono (uh HB1).size)).trans (hb3.mono (lee (uh HB1).size b2.size)))
 have HK3 : Hid (Blk W3 nb 74 #[.int .i64 0, .string ⟨#[]⟩, .int .i64 0, .string ⟨#[]⟩, .bool false]) := hide (((uh HK).below b2 (uh HK).lt).below hb3 (lle (uh HK).lt b2.size))
 have HT3 : Hid (Blk W3 nt 74 #[.int .i64 t.kind, .string t.text, .int .i64 t.pos, .string t.body, .bool t.raw]) := hide (by rw [hW3, hnt]; exact Blk.new _ _ _)
 have HNT : Hid (nb < nt ∧ w.heap.size ≤ nb) := hide ⟨by rw [hnt]; exact lle (uh HK).lt b2.size, by rw [uh HNB]; exact ler _⟩
 have HM := hide (pmore_any W3 b mp s ((uh HH).below (uh HB3)))
 have HW3 := hide hW3
 have HNTE := hide hnt
 clear hW3 hnt hb3 b2 HN HB1 HK
 go_upto_region 2 with fail
 rw [← uh HW3, ← uh HNTE]
 clear HW1 HW3 HNTE HNB
 obtain ⟨ho, v, h1, hr⟩ := uh HH
 have HBK := hide h1
 have e0 : W3.cell? ⟨nt, 0, none⟩ = some (.int .i64 t.kind) := (uh HT3).cell 0 rfl
 have e1 : W3.cell? ⟨nt, 1, none⟩ = some (.string t.text) := (uh HT3).cell 1 rfl
 have e2 : W3.cell? ⟨nt, 2, none⟩ = some (.int .i64 t.pos) := (uh HT3).cell 2 rfl
 have e3 : W3.cell? ⟨nt, 3, none⟩ = some (.string t.body) := (uh HT3).cell 3 rfl
 have e4 : W3.cell? ⟨nt, 4, none⟩ = some (.bool t.raw) := (uh HT3).cell 4 rfl
 cases hs : s.toks with
 | nil =>
   rw [show s.more = false by unfold Pz.more; rw [hs]; rfl] at HM
   have d0 : W3.cell? ⟨nb, 0, none⟩ = some (.int .i64 0) := (uh HK3).cell 0 rfl
   have d1 : W3.cell? ⟨nb, 1, none⟩ = some (.string ⟨#[]⟩) := (uh HK3).cell 1 rfl
   have d2 : W3.cell? ⟨nb, 2, none⟩ = some (.int .i64 0) := (uh HK3).cell 2 rfl
   have d3 : W3.cell? ⟨nb, 3, none⟩ = some (.string ⟨#[]⟩) := (uh HK3).cell 3 rfl
   have d4 : W3.cell? ⟨nb, 4, none⟩ = some (.bool false) := (uh HK3).cell 4 rfl
   have f0 : ∀ i, W3.frozen? ⟨nb, i, none⟩ = false := fun i => (uh HK3).frozen i
   have HR : Hid (PzAt (T5 W3 nb t) b mp s.take ∧ Fr w (T5 W3 nb t) b) := hide (by
    have hL : Fr w (T5 W3 nb t) b := ((leg_below (uh HB3)).trans (leg_new (T5_grown W3 nb t) (uh HNT).2)).fr
    refine ⟨PzAt.fin (u := v) hL ?_ ho.take ?_, hL⟩
    ·have hne : b ≠ nb := Nat.ne_of_lt (lle h1.lt (uh HNT).2)
     exact (h1.below (uh HB3) h1.lt).grownS (T5_grown W3 nb t) hne
    ·unfold Pz.take
     rw [hs]
     rw [hs] at hr
     exact hr)
   have HF : Hid (Blk (T5 W3 nb t) nb 74 t.cells) := hide (T5_blk (uh HK3) t)
   clear h1 hr hs HH HT3 HK3 HB3
   go_wp2_with fail
   refine (uh HM).mono ?_
   rintro e w4 ⟨rfl, hw4⟩
   rw [show w4 = W3 from hw4]
   clear hw4
   go_wp2
   refine bodyPost_ret (results_cell_row (P := Tryz.prog) rfl _ _ nb 74 t.cells (0, 0) _ rfl (uh HF) Tryz.underlying74 rfl (by kernel_rfl)) rfl ⟨rfl, uh HR⟩
 | cons t1 r =>
   rw [show s.more = true by unfold Pz.more; rw [hs]; rfl] at HM
   rw [hs] at hr
   obtain ⟨g, o, cap, hv, hc1, hc2, _⟩ := hr.head
   subst hv
   have hlen : r.length ≤ 100000 := by rw [hs, List.length_cons] at hfew; omega
   have q0 : W3.cell? ⟨b, 0, none⟩ = some (.slice (some ⟨g, o, none⟩) (r.length + 1) cap) := (h1.below (uh HB3) h1.lt).cell 0 rfl
   have q1 : W3.frozen? ⟨b, 0, none⟩ = false := (h1.below (uh HB3) h1.lt).frozen 0
   have hbn : b ≠ nb := Nat.ne_of_lt (lle h1.lt (uh HNT).2)
   have hbt : b ≠ nt := Nat.ne_of_lt (Nat.lt_trans (lle h1.lt (uh HNT).2) (uh HNT).1)
   have d0 : W3.cell? ⟨nb, 0, none⟩ = some (.int .i64 0) := (uh HK3).cell 0 rfl
   have d1 : W3.cell? ⟨nb, 1, none⟩ = some (.string ⟨#[]⟩) := (uh HK3).cell 1 rfl
   have d2 : W3.cell? ⟨nb, 2, none⟩ = some (.int .i64 0) := (uh HK3).cell 2 rfl
   have d3 : W3.cell? ⟨nb, 3, none⟩ = some (.string ⟨#[]⟩) := (uh HK3).cell 3 rfl
   have d4 : W3.cell? ⟨nb, 4, none⟩ = some (.bool false) := (uh HK3).cell 4 rfl
   have f0 : ∀ i, W3.frozen? ⟨nb, i, none⟩ = false := fun i => (uh HK3).frozen i
   obtain ⟨ad, hu⟩ : ∃ ad, Value.slice ad r.length (cap - 1) = sliced (some ⟨g, o, none⟩) 1 (r.length + 1) cap 5 := ⟨_, rfl⟩
   have HU : Hid (TkRow w b (.slice ad r.length (cap - 1)) r) := hide (by rw [hu]; exact hr.tail)
   have hsl : (Instr.slice 39 (.slice (some ⟨g, o, none⟩) (r.length + 1) cap) (some (.int .i64 1)) none none).run Tryz.prog W3 = .ok (.slice ad r.length (cap - 1)) W3 := by
    rw [hu, run_slice_l W3 39 _ _ _ (by kernel_rfl) .i64 1 (by decide) (by omega), show Tryz.prog.elem 39 = 74 by kernel_rfl, size_token]
    rfl
   have HR : Hid (PzAt (T5 (W3.setCell ⟨b, 0, none⟩ (.slice ad r.length (cap - 1))) nb t) b mp s.take ∧ Fr w (T5 (W3.setCell ⟨b, 0, none⟩ (.slice ad r.length (cap - 1))) nb t) b) := hide (by
    have hL : Fr w (T5 (W3.setCell ⟨b, 0, none⟩ (.slice ad r.length (cap - 1))) nb t) b := (((leg_below (uh HB3)).trans (leg_fr (fr_set W3 b 0 (.slice ad r.length (cap - 1))))).trans (leg_new (T5_grown _ nb t) (uh HNT).2)).fr
    refine ⟨PzAt.fin (u := .slice ad r.length (cap - 1)) hL ?_ ho.take ?_, hL⟩
    ·exact ((h1.below (uh HB3) h1.lt).set 0 (.slice ad r.length (cap - 1))).grownS (T5_grown _ nb t) hbn
    ·unfold Pz.take
     rw [hs]
     exact uh HU)
   have HF : Hid (Blk (T5 (W3.setCell ⟨b, 0, none⟩ (.slice ad r.length (cap - 1))) nb t) nb 74 t.cells) := hide (T5_blk ((uh HK3).grownS (fr_set W3 b 0 (.slice ad r.length (cap - 1))) (fun e => hbn e.symm)) t)
   clear h1 hr hs HH HT3 HK3 HB3 hu HU
   go_wp2_with fail
   refine (uh HM).mono ?_
   rintro e w4 ⟨rfl, hw4⟩
   rw [show w4 = W3 from hw4]
   clear hw4
   go_upto_region 4 with fail
   obtain ⟨W4, hW4⟩ : ∃ W4, W4 = W3.setCell ⟨b, 0, none⟩ (.slice ad r.length (cap - 1)) := ⟨_, rfl⟩
   have e0' : W4.cell? ⟨nt, 0, none⟩ = some (.int .i64 t.kind) := by rw [hW4]; exact tset_far hbt e0
   have e1' : W4.cell? ⟨nt, 1, none⟩ = some (.string t.text) := by rw [hW4]; exact tset_far hbt e1
   have e2' : W4.cell? ⟨nt, 2, none⟩ = some (.int .i64 t.pos) := by rw [hW4]; exact tset_far hbt e2
   have e3' : W4.cell? ⟨nt, 3, none⟩ = some (.string t.body) := by rw [hW4]; exact tset_far hbt e3
   have e4' : W4.cell? ⟨nt, 4, none⟩ = some (.bool t.raw) := by rw [hW4]; exact tset_far hbt e4
   have d0' : W4.cell? ⟨nb, 0, none⟩ = some (.int .i64 0) := by rw [hW4]; exact tset_far hbn d0
   have d1' : W4.cell? ⟨nb, 1, none⟩ = some (.string ⟨#[]⟩) := by rw [hW4]; exact tset_far hbn d1
   have d2' : W4.cell? ⟨nb, 2, none⟩ = some (.int .i64 0) := by rw [hW4]; exact tset_far hbn d2
   have d3' : W4.cell? ⟨nb, 3, none⟩ = some (.string ⟨#[]⟩) := by rw [hW4]; exact tset_far hbn d3
   have d4' : W4.cell? ⟨nb, 4, none⟩ = some (.bool false) := by rw [hW4]; exact tset_far hbn d4
   have f0' : ∀ i, W4.frozen? ⟨nb, i, none⟩ = false := fun i => by rw [hW4]; exact (frozen_far hbn i).trans (f0 i)
   rw [← hW4] at HR HF
   rw [← hW4]
   clear hW4 e0 e1 e2 e3 e4 d0 d1 d2 d3 d4 f0 q0 q1 hsl
   go_wp2
   refine bodyPost_ret (results_cell_row (P := Tryz.prog) rfl _ _ nb 74 t.cells (0, 0) _ rfl (uh HF) Tryz.underlying74 rfl (by kernel_rfl)) rfl ⟨rfl, uh HR⟩
end Go.Proofs.YtojjfdobilkknaaGreatDoor

/-
  What 'Lex' answers, on lists.
-/
import Derived.Test.YtlmpdfeidjnmnaaDoorFound
namespace Go.Proofs.YtlmpdfeidjnmnaaDoor
open Go.RowKit

/-- A text in place from the front of a text on, up to its end line; what is left behind that. 'f': fuel, at least the length and 1. -/
def takeL : Nat → Bool → List UInt8 → List UInt8 → List UInt8 → Option (List UInt8 × List UInt8)
  | 0, _, _, _, _ => none
  | _ + 1, _, _, [], _ => none
  | f + 1, tabs, en, c :: r, acc =>
    let ln := (c :: r).takeWhile (fun x => x != 10)
    let ln := if tabs then Lib.trimLeftB ln 9 else ln
    let rest := ((c :: r).dropWhile (fun x => x != 10)).drop 1
    if ln = en then some (acc, rest) else takeL f tabs en rest (acc ++ ln ++ [10])
/-- The things of a Word. 'f': fuel, at least the length. -/
def wordL : Nat → List UInt8 → Rs
  | 0, l => .ok l
  | _ + 1, [] => .ok []
  | f + 1, c :: r => if metB (c.toNat : Int) then .ok (c :: r) else match thg (3 * (r.length + 1) + 3) (c :: r) 0 0 with
    | .err e m => .err e m
    | .ok l => wordL f l

/-- A text in place that is awaited: its token's place in the list, its end line, whether tabs are dropped. -/
structure Wt where
  tok : Nat
  en : List UInt8
  tabs : Bool
/-- How far the lexer is. -/
structure LS where
  rest : List UInt8
  toks : List Tok
  wait : List Wt
  flt : Int
  blm : Int
def LS.fail (st : LS) (e x : Int) : LS := if st.flt = 0 then { st with flt := e, blm := x } else st
def LS.add (st : LS) (kind : Int) (text : List UInt8) (pos : Int) : LS := { st with toks := st.toks ++ [⟨kind, BA text, pos, ⟨#[]⟩, false⟩] }
def LS.posOf (st : LS) (i : Nat) : Int := (st.toks[i]?.map Tok.pos).getD 0
def takeUpL (st : LS) (x : Wt) : LS :=
  if st.flt = 0 then match takeL (st.rest.length + 1) x.tabs x.en st.rest [] with
    | some (body, rest) => { st with rest := rest, toks := st.toks.modify x.tok (fun t => { t with body := BA body }) }
    | none => ({ st with rest := [] } : LS).fail 12 (st.posOf x.tok)
  else st
/-- st's rest begins behind the byte 10. -/
def newlineL (st : LS) (pos : Int) : LS :=
  let st := st.wait.foldl takeUpL st
  if st.flt = 0 then ({ st with wait := [] } : LS).add 3 [10] pos else st
def awaitL (st : LS) (word : List UInt8) : LS :=
  match st.toks.getLast? with
  | none => st
  | some t => if t.text = BA [60, 60] ∨ t.text = BA [60, 60, 45] then
      { st with toks := st.toks.modify (st.toks.length - 1) (fun t => { t with raw := word.any (fun c => c == 92 || c == 39 || c == 34) }), wait := st.wait ++ [⟨st.toks.length - 1, endL word, t.text == BA [60, 60, 45]⟩] }
    else st
/-- A Word or an Io. n: the whole text's length. -/
def wordTok (n : Nat) (st : LS) : LS :=
  let pos : Int := ((n - st.rest.length : Nat) : Int)
  match wordL (st.rest.length + 1) st.rest with
  | .err e m => { st with flt := e, blm := ((n - m.length : Nat) : Int) }
  | .ok r =>
    let word := st.rest.take (st.rest.length - r.length)
    if digsB word && (r.head? == some 60 || r.head? == some 62) then ({ st with rest := r } : LS).add 4 word pos
    else (awaitL { st with rest := r } word).add 1 word pos
def tokenL (n : Nat) (st : LS) : LS :=
  match st.rest with
  | [] => st
  | c :: r =>
    let pos : Int := ((n - (r.length + 1) : Nat) : Int)
    if c = 10 then newlineL { st with rest := r } pos
    else if opL (c :: r) = [] then wordTok n st
    else ({ st with rest := (c :: r).drop (opL (c :: r)).length } : LS).add 2 (opL (c :: r)) pos
def loopL (n : Nat) : Nat → LS → LS
  | 0, st => st
  | f + 1, st =>
    if st.flt = 0 then
      let st := { st with rest := skL (st.rest.length + 1) st.rest }
      if st.rest = [] then st else loopL n f (tokenL n st)
    else st
/-- The tokens, the byte that is to blame, what is wrong. -/
def lexL (l : List UInt8) : List Tok × Int × Int :=
  if 4096 < l.length then ([], 0, 3) else
    let st := loopL l.length (l.length + 1) ⟨l, [], [], 0, 0⟩
    let st := match st.wait with
      | [] => st
      | x :: _ => st.fail 12 (st.posOf x.tok)
    (st.toks, st.blm, st.flt)

end Go.Proofs.YtlmpdfeidjnmnaaDoor

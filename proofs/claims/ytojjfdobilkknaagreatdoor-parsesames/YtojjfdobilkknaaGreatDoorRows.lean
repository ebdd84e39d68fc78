/-
  NARROWER THAN 'FOR EVERY INPUT', by the rows' own cells (each row's printed sentence says how): ParseSames: laid.
  DERIVED. THE GIVEN ROWS OF THIS SEAT. 1 by the template 'for every input the law returns true; each argument reads behind the call as it read before'; 0 by the template 'total and deterministic' (their statements: YtojjfdobilkknaaGreatDoorTotals.lean).
  GIVEN WITH THE SEED: the statements are not yours to turn. If you find one false, say at which input.
  Laid BY PROGRAM, IN A SANDBOX (cutbox-rows.mjs): the forced cells as the released guide's own fill.sh prints them over the translation fd02c3544064dbf9… (all of the seat's roots in one cut). By AI agents, Wed Nov 11 2026. No macro, syntax, notation, axiom, sorry.
-/
import Derived.Test.YtojjfdobilkknaaGreatDoorChecked
import GoSem.PinnedTables
import GoSem.Claim
import GoSem.ClaimJoined
import GoSem.ClaimMapViews
import Derived.JoinedTies
import Derived.KernelRfl
namespace Go.Proofs.YtojjfdobilkknaaGreatDoor
/- THE CELL 'sum', in the pinned program and in every row, IS THE sha256 OF THE DUMP (.gsa) THAT YtojjfdobilkknaaGreatDoorProg.lean LOADS. Nothing in Lean hashes anything: it is a label: what it is worth is what the hold of that sum in a sandbox is worth. -/
noncomputable def Tryz.pinned : Pinned := { name := "ytojjfdobilkknaagreatdoor", sum := "fd02c3544064dbf9e0fe3be993fcffa9c692f2ce692bd818ed0b5cd80a3e0840", checked := Tryz.checked }
namespace Rows
def none {H : Type} : Left H := { results := [], args := [] }

/- WHAT THE LISTED PACKAGE-LEVEL VARIABLES READ AS WHEN THE CALL BEGINS. Each datum BY PROGRAM (the guide's laid-datum.mjs) off the statement by which the dump's own 'gosem.cut.vars' lays the variable. In a bare row this is a premise. The card (YtojjfdobilkknaaGreatDoorCards.lean) ties it to the program's text. -/
def laid_unicode_utf8_acceptRanges {H : Type} : DataW H := .agg [.agg [.lit (.int .u8 128), .lit (.int .u8 191)], .agg [.lit (.int .u8 160), .lit (.int .u8 191)], .agg [.lit (.int .u8 128), .lit (.int .u8 159)], .agg [.lit (.int .u8 144), .lit (.int .u8 191)], .agg [.lit (.int .u8 128), .lit (.int .u8 143)], .agg [.lit (.int .u8 0), .lit (.int .u8 0)], .agg [.lit (.int .u8 0), .lit (.int .u8 0)], .agg [.lit (.int .u8 0), .lit (.int .u8 0)], .agg [.lit (.int .u8 0), .lit (.int .u8 0)], .agg [.lit (.int .u8 0), .lit (.int .u8 0)], .agg [.lit (.int .u8 0), .lit (.int .u8 0)], .agg [.lit (.int .u8 0), .lit (.int .u8 0)], .agg [.lit (.int .u8 0), .lit (.int .u8 0)], .agg [.lit (.int .u8 0), .lit (.int .u8 0)], .agg [.lit (.int .u8 0), .lit (.int .u8 0)], .agg [.lit (.int .u8 0), .lit (.int .u8 0)]]
def laid_conch_lex_operators {H : Type} : DataW H := .agg [.lit (.string [60, 60, 45]), .lit (.string [60, 60]), .lit (.string [60, 38]), .lit (.string [60, 62]), .lit (.string [60]), .lit (.string [62, 62]), .lit (.string [62, 38]), .lit (.string [62]), .lit (.string [38, 38]), .lit (.string [38]), .lit (.string [124, 124]), .lit (.string [124]), .lit (.string [59, 59]), .lit (.string [59]), .lit (.string [40]), .lit (.string [41])]
def laid_conch_word_signs {H : Type} : DataW H := .agg [.agg [.lit (.string [45]), .lit (.int .i64 2)], .agg [.lit (.string [61]), .lit (.int .i64 3)], .agg [.lit (.string [63]), .lit (.int .i64 4)], .agg [.lit (.string [43]), .lit (.int .i64 5)], .agg [.lit (.string [35, 35]), .lit (.int .i64 7)], .agg [.lit (.string [35]), .lit (.int .i64 6)], .agg [.lit (.string [37, 37]), .lit (.int .i64 9)], .agg [.lit (.string [37]), .lit (.int .i64 8)]]
def laid_conch_word_rules {H : Type} : DataW H := .agg [.agg [.lit (.bool true), .lit (.bool true), .lit (.bool false), .lit (.string [])], .agg [.lit (.bool true), .lit (.bool true), .lit (.bool false), .lit (.string [])], .agg [.lit (.bool false), .lit (.bool false), .lit (.bool true), .lit (.string [36, 34, 92, 96])], .agg [.lit (.bool false), .lit (.bool true), .lit (.bool true), .lit (.string [36, 34, 92, 96, 125])], .agg [.lit (.bool false), .lit (.bool true), .lit (.bool false), .lit (.string [])], .agg [.lit (.bool false), .lit (.bool false), .lit (.bool true), .lit (.string [36, 92, 96])]]
def laid_conch_parse_signs {H : Type} : DataW H := .agg [.agg [.lit (.string [60]), .lit (.int .i64 1), .lit (.int .i64 0)], .agg [.lit (.string [62]), .lit (.int .i64 2), .lit (.int .i64 1)], .agg [.lit (.string [62, 62]), .lit (.int .i64 3), .lit (.int .i64 1)], .agg [.lit (.string [60, 62]), .lit (.int .i64 4), .lit (.int .i64 0)], .agg [.lit (.string [60, 38]), .lit (.int .i64 5), .lit (.int .i64 0)], .agg [.lit (.string [62, 38]), .lit (.int .i64 5), .lit (.int .i64 1)], .agg [.lit (.string [60, 60]), .lit (.int .i64 6), .lit (.int .i64 0)], .agg [.lit (.string [60, 60, 45]), .lit (.int .i64 6), .lit (.int .i64 0)]]
/-- One of Go's own tables, pinned by name: the form's constant. -/
def laid_unicode_utf8_first : DataW Unit := Go.Pinned.utf8First

/-- 'conchlaw06.ParseSames': WHATEVER THE INPUT: true; the input reads as it did. -/
def parseSamesSpec : ChangeSpec := { name := "parseSames", fn := fun _ => fun
  | [d1, d2] => { results := [.lit (.bool true)], args := [d1, d2] }
  | _ => none }
def parseSamesRow : OpenClaim := { program := "ytojjfdobilkknaagreatdoor", sum := "fd02c3544064dbf9e0fe3be993fcffa9c692f2ce692bd818ed0b5cd80a3e0840", func := "conch/conchlaw06.ParseSames", spec := "parseSames", inPlace := ["internal/bytealg.IndexByteString", "internal/bytealg.IndexString", "internal/abi.NoEscape"], unfollowed := true, recurses := true, named := ["internal/bytealg.MaxLen", "conch/lex.operators", "unicode/utf8.first", "unicode/utf8.acceptRanges", "conch/parse.signs", "conch/word.rules", "conch/word.signs"], apart := false, laid := [("unicode/utf8.acceptRanges", laid_unicode_utf8_acceptRanges), ("conch/lex.operators", laid_conch_lex_operators), ("conch/word.signs", laid_conch_word_signs), ("conch/word.rules", laid_conch_word_rules), ("conch/parse.signs", laid_conch_parse_signs), ("unicode/utf8.first", laid_unicode_utf8_first)] }
def ParseSamesSaid : Prop := parseSamesRow.holds Tryz.pinned (OpenSpec.ofChange parseSamesSpec)

/-- ITS FALSE NEIGHBOUR: 'it returns false'. Refute it at one input. -/
def parseSamesWrong : ChangeSpec := { name := "parseSames", fn := fun _ => fun
  | [d1, d2] => { results := [.lit (.bool false)], args := [d1, d2] }
  | _ => none }
def ParseSamesWrongFalsely : Prop := parseSamesRow.holds Tryz.pinned (OpenSpec.ofChange parseSamesWrong)

/- THE SECOND FORM. 'bulk': how many values and letters a reading holds, each counted each time it is reached (what is shared counts as often as it is met; a slice's spare places count too). A statement '..UptoSaid' is the law's where the arguments, and the package variables that the reading takes, are together of bulk at most 1048576: NARROWER than '..Said'. Prove '..Said' where nothing that the law and all that it calls make is longer than what came in: it says more and counts as full. Else prove '..UptoSaid'. A law counts once. -/
mutual
def uptoBulk {H : Type} : DataW H → Nat
  | .lit (.string bytes) => bytes.length + 1
  | .lit _ => 1
  | .nil => 1
  | .ptr d => uptoBulk d + 1
  | .slice elems spare => uptoBulkAll elems + uptoBulkAll spare + 1
  | .agg parts => uptoBulkAll parts + 1
  | .iface _ d => uptoBulk d + 1
  | .map entries => uptoBulkEntries entries + 1
  | .held _ => 1
def uptoBulkAll {H : Type} : List (DataW H) → Nat
  | [] => 0
  | d :: r => uptoBulk d + uptoBulkAll r
def uptoBulkEntries {H : Type} : List (Lit × DataW H) → Nat
  | [] => 0
  | x :: r => uptoBulkEntry x + uptoBulkEntries r
def uptoBulkEntry {H : Type} : Lit × DataW H → Nat
  | (.string bytes, d) => bytes.length + uptoBulk d + 1
  | (_, d) => uptoBulk d + 1
 end
def uptoSmall : (H : Type) → List (DataW H) → Bool := fun _ ds => decide (uptoBulkAll ds ≤ 1048576)
def OpenSpec.upto (s : _root_.Go.ChangeSpec) : _root_.Go.OpenSpec := { _root_.Go.OpenSpec.ofChange s with cond := some uptoSmall }

/-- 'conchlaw06.ParseSames', WHERE WHAT IT READS IS OF BULK AT MOST 1048576: true; the input reads as it did. -/
def parseSamesUptoRow : OpenClaim := { program := "ytojjfdobilkknaagreatdoor", sum := "fd02c3544064dbf9e0fe3be993fcffa9c692f2ce692bd818ed0b5cd80a3e0840", func := "conch/conchlaw06.ParseSames", spec := "parseSames", inPlace := ["internal/bytealg.IndexByteString", "internal/bytealg.IndexString", "internal/abi.NoEscape"], unfollowed := true, recurses := true, named := ["internal/bytealg.MaxLen", "conch/lex.operators", "unicode/utf8.first", "unicode/utf8.acceptRanges", "conch/parse.signs", "conch/word.rules", "conch/word.signs"], apart := false, laid := [("unicode/utf8.acceptRanges", laid_unicode_utf8_acceptRanges), ("conch/lex.operators", laid_conch_lex_operators), ("conch/word.signs", laid_conch_word_signs), ("conch/word.rules", laid_conch_word_rules), ("conch/parse.signs", laid_conch_parse_signs), ("unicode/utf8.first", laid_unicode_utf8_first)], narrowed := true }
def ParseSamesUptoSaid : Prop := parseSamesUptoRow.holds Tryz.pinned (OpenSpec.upto parseSamesSpec)

end Rows
end Go.Proofs.YtojjfdobilkknaaGreatDoor

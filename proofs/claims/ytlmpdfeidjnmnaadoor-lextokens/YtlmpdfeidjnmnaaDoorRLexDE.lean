/-
  The document's 'Lex', cut into declarations: the loop's body, what holds at each of its rounds.
  The document's 'Lex': its inner loops.
  The document's 'Lex': how far the loop over a Word's things is.
  The document's 'Lex': a Word whose things are read.
-/
import Derived.Test.YtlmpdfeidjnmnaaDoorRRow
import Derived.Test.YtlmpdfeidjnmnaaDoorRPiece
import Derived.Deep.DeepCutAuto
import Derived.Test.YtlmpdfeidjnmnaaDoorStand
import Derived.Test.YtlmpdfeidjnmnaaDoorLoc

/- The document's 'Lex', cut into declarations: the loop's body, what holds at each of its rounds. -/
namespace Go.Proofs.YtlmpdfeidjnmnaaDoor
open Go.RowKit

theorem five_val {k p : Int} {t b : ByteArray} {r : Bool} : ∀ u ∈ [Value.int .i64 k, .string t, .int .i64 p, .string b, .bool r], u.oneCell' = true := by
  intro u hu
  simp at hu
  rcases hu with rfl | rfl | rfl | rfl | rfl <;> rfl
theorem two_val {k : Int} {t : ByteArray} : ∀ u ∈ [Value.int .i64 k, .string t], u.oneCell' = true := by
  intro u hu
  simp at hu
  rcases hu with rfl | rfl <;> rfl
theorem two_cells {w : World} {t : TypeId} {a c : Value} : ∀ j u, [a, c][j]? = some u → (w.alloc (.cells #[a, c] t)).cell? ((⟨w.heap.size, 0, none⟩ : Addr).add j) = some u := by
  intro j u hu
  have hb := Blk.new w t #[a, c]
  match j, hu with
  | 0, hu => simp at hu; subst hu; rw [add_at]; exact hb.cell 0 rfl
  | 1, hu => simp at hu; subst hu; rw [add_at]; exact hb.cell 1 rfl
/-- What the whole comes to, of what the loop comes to. -/
def endS (T : LS) : LS := match T.wait with
  | [] => T
  | x :: _ => T.fail 12 (T.posOf x.tok)
theorem endS_bad {T : LS} (h : T.flt ≠ 0) : endS T = T := by
  unfold endS
  cases T.wait with
  | nil => rfl
  | cons x ws => simp only; unfold LS.fail; rw [if_neg h]
theorem body_val (s : ByteArray) (p : Nat) (en : List UInt8) (tabs : Bool) (w : World) (hs : s.size ≤ 100000) (hp : p ≤ s.size) (b r : List UInt8) (h : takeL (s.size - p + 1) tabs en (s.data.toList.drop p) [] = some (b, r)) :
    Calls Tryd.prog 26 #[.string s, .int .i64 (p : Int), .string (BA en), .bool tabs] w fun e w' => e = .returned (.tuple #[.string (BA b), .int .i64 ((s.size - r.length : Nat) : Int), .bool true]) ∧ w' = w := by
  refine (body_any s p en tabs w hs hp).mono ?_
  rintro e w' ⟨hw, q, hq, hm⟩
  rw [h] at hm
  obtain ⟨h1, h2⟩ := hm
  exact ⟨by rw [h1, place_left h2 hq], hw⟩
theorem body_none (s : ByteArray) (p : Nat) (en : List UInt8) (tabs : Bool) (w : World) (hs : s.size ≤ 100000) (hp : p ≤ s.size) (h : takeL (s.size - p + 1) tabs en (s.data.toList.drop p) [] = none) :
    Calls Tryd.prog 26 #[.string s, .int .i64 (p : Int), .string (BA en), .bool tabs] w fun e w' => e = .returned (.tuple #[.string ⟨#[]⟩, .int .i64 (s.size : Int), .bool false]) ∧ w' = w := by
  refine (body_any s p en tabs w hs hp).mono ?_
  rintro e w' ⟨hw, q, hq, hm⟩
  rw [h] at hm
  obtain ⟨h1, h2⟩ := hm
  exact ⟨by rw [h1, h2], hw⟩

/-- The outermost loops of a piece of code, in the text's order. -/
def loopsIn : Code → List Code
  | .loop c => [c]
  | .seq a b => loopsIn a ++ loopsIn b
  | .block _ c => loopsIn c
  | .scope c => loopsIn c
  | .cond _ a b => loopsIn a ++ loopsIn b
  | _ => []
/-- The loop's body. -/
noncomputable def lexBody : Code := ((loopsIn (Tryd.f13.body.getD .skip))[0]?).getD .skip
/-- What the whole answers. -/
def RPost (w : World) (T : LS) (e : Ending) (w' : World) : Prop := ∃ v, e = .returned (.tuple #[v, .int .i64 (endS T).blm, .int .i64 (endS T).flt]) ∧ Below w.heap.size w w' ∧ TRow w' v (endS T).toks
def Rel3 (w : World) (s : ByteArray) (T : LS) (v u i : Value) (wr : World) : Prop := ∃ (q : Nat) (st : LS) (G : Nat), i = .int .i64 (q : Int) ∧ Hid (RAt w s T wr v u q st G)
set_option maxRecDepth 1000000 in
def WI (w : World) (s : ByteArray) (T : LS) (a : Act) (wr : World) : Prop := ∃ f : Nat → Value, Rel3 w s T (f 5) (f 6) (f 7) wr ∧ a = ⟨#[.string s, undef, f 2, f 3, f 4, f 5, f 6, f 7, f 8, f 9, f 10, f 11, f 12, f 13, f 14, f 15, f 16, f 17, f 18, f 19, .string s, .int .i64 (s.size : Int), .bool false, f 23, f 24, f 25, f 26, f 27, f 28, f 29, f 30, f 31, f 32, f 33, f 34, f 35, f 36, f 37, f 38, f 39, f 40, f 41, f 42, f 43, f 44, f 45, f 46, f 47, f 48, f 49, f 50, f 51, f 52, f 53, f 54, f 55, f 56, f 57, f 58, f 59, f 60, f 61, f 62, f 63, f 64, f 65, f 66, f 67, f 68, f 69, f 70, f 71, f 72, f 73, f 74, f 75, f 76, f 77, f 78, f 79, f 80, f 81, f 82, f 83, f 84, f 85, f 86, f 87, f 88, f 89, f 90, f 91, f 92, f 93, f 94, f 95, f 96, f 97, f 98, f 99, f 100, f 101, f 102, f 103, f 104, f 105, f 106, f 107, f 108, f 109, f 110, f 111, f 112, f 113, f 114, f 115, f 116, f 117, f 118, f 119, f 120, f 121, f 122, f 123, f 124, f 125, f 126, f 127, f 128, f 129, f 130, f 131, f 132, f 133, f 134, f 135, f 136, f 137, f 138, f 139, f 140, f 141, f 142, f 143, f 144, f 145, f 146, f 147, f 148, f 149, f 150, f 151, f 152, f 153, f 154, f 155, f 156, f 157, f 158, f 159, f 160, f 161, f 162, f 163, f 164, f 165, f 166, f 167, f 168, f 169, f 170, f 171, f 172, f 173, f 174, f 175, f 176, f 177, f 178, f 179, f 180, f 181, f 182, f 183, f 184, f 185, f 186, f 187, f 188, f 189, f 190, f 191, f 192, f 193, f 194, f 195, f 196, f 197, f 198, f 199, f 200, f 201, f 202, f 203, f 204, f 205, f 206, f 207, f 208, f 209, f 210, f 211, f 212, f 213, f 214, f 215, f 216, f 217, f 218, f 219, f 220, f 221, f 222, f 223, f 224, f 225, f 226, f 227, f 228, undef, undef, undef, undef, undef, undef, undef, undef, undef, undef, undef, undef, undef], []⟩
def Wmu (s : ByteArray) (a : Act) : Nat := s.size - (intOf (a.tmps.getD 7 undef)).toNat
/-- Where the loop ends. -/
def Out3 (w : World) (T : LS) (v u : Value) (wr : World) : Prop := Rws w.heap.size wr v u T ∧ T.flt = 0 ∧ T.blm = 0 ∧ KInv T ∧ Below w.heap.size w wr
set_option maxRecDepth 1000000 in
def WX (w : World) (s : ByteArray) (T : LS) (a : Act) (wr : World) : Prop := ∃ f : Nat → Value, Hid (Out3 w T (f 5) (f 6) wr) ∧ a = ⟨#[.string s, undef, f 2, f 3, f 4, f 5, f 6, f 7, f 8, f 9, f 10, f 11, f 12, f 13, f 14, f 15, f 16, f 17, f 18, f 19, .string s, .int .i64 (s.size : Int), .bool false, f 23, f 24, f 25, f 26, f 27, f 28, f 29, f 30, f 31, f 32, f 33, f 34, f 35, f 36, f 37, f 38, f 39, f 40, f 41, f 42, f 43, f 44, f 45, f 46, f 47, f 48, f 49, f 50, f 51, f 52, f 53, f 54, f 55, f 56, f 57, f 58, f 59, f 60, f 61, f 62, f 63, f 64, f 65, f 66, f 67, f 68, f 69, f 70, f 71, f 72, f 73, f 74, f 75, f 76, f 77, f 78, f 79, f 80, f 81, f 82, f 83, f 84, f 85, f 86, f 87, f 88, f 89, f 90, f 91, f 92, f 93, f 94, f 95, f 96, f 97, f 98, f 99, f 100, f 101, f 102, f 103, f 104, f 105, f 106, f 107, f 108, f 109, f 110, f 111, f 112, f 113, f 114, f 115, f 116, f 117, f 118, f 119, f 120, f 121, f 122, f 123, f 124, f 125, f 126, f 127, f 128, f 129, f 130, f 131, f 132, f 133, f 134, f 135, f 136, f 137, f 138, f 139, f 140, f 141, f 142, f 143, f 144, f 145, f 146, f 147, f 148, f 149, f 150, f 151, f 152, f 153, f 154, f 155, f 156, f 157, f 158, f 159, f 160, f 161, f 162, f 163, f 164, f 165, f 166, f 167, f 168, f 169, f 170, f 171, f 172, f 173, f 174, f 175, f 176, f 177, f 178, f 179, f 180, f 181, f 182, f 183, f 184, f 185, f 186, f 187, f 188, f 189, f 190, f 191, f 192, f 193, f 194, f 195, f 196, f 197, f 198, f 199, f 200, f 201, f 202, f 203, f 204, f 205, f 206, f 207, f 208, f 209, f 210, f 211, f 212, f 213, f 214, f 215, f 216, f 217, f 218, f 219, f 220, f 221, f 222, f 223, f 224, f 225, f 226, f 227, f 228, undef, undef, undef, undef, undef, undef, undef, undef, undef, undef, undef, undef, undef], []⟩
set_option maxRecDepth 1000000 in
theorem WI_intro {w : World} {s : ByteArray} {T : LS} {wr : World} {u2 u3 u4 u5 u6 u8 u9 u10 u11 u12 u13 u14 u15 u16 u17 u18 u19 u23 u24 u25 u26 u27 u28 u29 u30 u31 u32 u33 u34 u35 u36 u37 u38 u39 u40 u41 u42 u43 u44 u45 u46 u47 u48 u49 u50 u51 u52 u53 u54 u55 u56 u57 u58 u59 u60 u61 u62 u63 u64 u65 u66 u67 u68 u69 u70 u71 u72 u73 u74 u75 u76 u77 u78 u79 u80 u81 u82 u83 u84 u85 u86 u87 u88 u89 u90 u91 u92 u93 u94 u95 u96 u97 u98 u99 u100 u101 u102 u103 u104 u105 u106 u107 u108 u109 u110 u111 u112 u113 u114 u115 u116 u117 u118 u119 u120 u121 u122 u123 u124 u125 u126 u127 u128 u129 u130 u131 u132 u133 u134 u135 u136 u137 u138 u139 u140 u141 u142 u143 u144 u145 u146 u147 u148 u149 u150 u151 u152 u153 u154 u155 u156 u157 u158 u159 u160 u161 u162 u163 u164 u165 u166 u167 u168 u169 u170 u171 u172 u173 u174 u175 u176 u177 u178 u179 u180 u181 u182 u183 u184 u185 u186 u187 u188 u189 u190 u191 u192 u193 u194 u195 u196 u197 u198 u199 u200 u201 u202 u203 u204 u205 u206 u207 u208 u209 u210 u211 u212 u213 u214 u215 u216 u217 u218 u219 u220 u221 u222 u223 u224 u225 u226 u227 u228 u7 : Value} (h : Rel3 w s T u5 u6 u7 wr) : WI w s T ⟨#[.string s, undef, u2, u3, u4, u5, u6, u7, u8, u9, u10, u11, u12, u13, u14, u15, u16, u17, u18, u19, .string s, .int .i64 (s.size : Int), .bool false, u23, u24, u25, u26, u27, u28, u29, u30, u31, u32, u33, u34, u35, u36, u37, u38, u39, u40, u41, u42, u43, u44, u45, u46, u47, u48, u49, u50, u51, u52, u53, u54, u55, u56, u57, u58, u59, u60, u61, u62, u63, u64, u65, u66, u67, u68, u69, u70, u71, u72, u73, u74, u75, u76, u77, u78, u79, u80, u81, u82, u83, u84, u85, u86, u87, u88, u89, u90, u91, u92, u93, u94, u95, u96, u97, u98, u99, u100, u101, u102, u103, u104, u105, u106, u107, u108, u109, u110, u111, u112, u113, u114, u115, u116, u117, u118, u119, u120, u121, u122, u123, u124, u125, u126, u127, u128, u129, u130, u131, u132, u133, u134, u135, u136, u137, u138, u139, u140, u141, u142, u143, u144, u145, u146, u147, u148, u149, u150, u151, u152, u153, u154, u155, u156, u157, u158, u159, u160, u161, u162, u163, u164, u165, u166, u167, u168, u169, u170, u171, u172, u173, u174, u175, u176, u177, u178, u179, u180, u181, u182, u183, u184, u185, u186, u187, u188, u189, u190, u191, u192, u193, u194, u195, u196, u197, u198, u199, u200, u201, u202, u203, u204, u205, u206, u207, u208, u209, u210, u211, u212, u213, u214, u215, u216, u217, u218, u219, u220, u221, u222, u223, u224, u225, u226, u227, u228, undef, undef, undef, undef, undef, undef, undef, undef, undef, undef, undef, undef, undef], []⟩ wr :=
  ⟨fun n => [undef, undef, u2, u3, u4, u5, u6, u7, u8, u9, u10, u11, u12, u13, u14, u15, u16, u17, u18, u19, undef, undef, undef, u23, u24, u25, u26, u27, u28, u29, u30, u31, u32, u33, u34, u35, u36, u37, u38, u39, u40, u41, u42, u43, u44, u45, u46, u47, u48, u49, u50, u51, u52, u53, u54, u55, u56, u57, u58, u59, u60, u61, u62, u63, u64, u65, u66, u67, u68, u69, u70, u71, u72, u73, u74, u75, u76, u77, u78, u79, u80, u81, u82, u83, u84, u85, u86, u87, u88, u89, u90, u91, u92, u93, u94, u95, u96, u97, u98, u99, u100, u101, u102, u103, u104, u105, u106, u107, u108, u109, u110, u111, u112, u113, u114, u115, u116, u117, u118, u119, u120, u121, u122, u123, u124, u125, u126, u127, u128, u129, u130, u131, u132, u133, u134, u135, u136, u137, u138, u139, u140, u141, u142, u143, u144, u145, u146, u147, u148, u149, u150, u151, u152, u153, u154, u155, u156, u157, u158, u159, u160, u161, u162, u163, u164, u165, u166, u167, u168, u169, u170, u171, u172, u173, u174, u175, u176, u177, u178, u179, u180, u181, u182, u183, u184, u185, u186, u187, u188, u189, u190, u191, u192, u193, u194, u195, u196, u197, u198, u199, u200, u201, u202, u203, u204, u205, u206, u207, u208, u209, u210, u211, u212, u213, u214, u215, u216, u217, u218, u219, u220, u221, u222, u223, u224, u225, u226, u227, u228, undef, undef, undef, undef, undef, undef, undef, undef, undef, undef, undef, undef, undef].getD n undef, h, rfl⟩
set_option maxRecDepth 1000000 in
theorem WX_intro {w : World} {s : ByteArray} {T : LS} {wr : World} {u2 u3 u4 u5 u6 u8 u9 u10 u11 u12 u13 u14 u15 u16 u17 u18 u19 u23 u24 u25 u26 u27 u28 u29 u30 u31 u32 u33 u34 u35 u36 u37 u38 u39 u40 u41 u42 u43 u44 u45 u46 u47 u48 u49 u50 u51 u52 u53 u54 u55 u56 u57 u58 u59 u60 u61 u62 u63 u64 u65 u66 u67 u68 u69 u70 u71 u72 u73 u74 u75 u76 u77 u78 u79 u80 u81 u82 u83 u84 u85 u86 u87 u88 u89 u90 u91 u92 u93 u94 u95 u96 u97 u98 u99 u100 u101 u102 u103 u104 u105 u106 u107 u108 u109 u110 u111 u112 u113 u114 u115 u116 u117 u118 u119 u120 u121 u122 u123 u124 u125 u126 u127 u128 u129 u130 u131 u132 u133 u134 u135 u136 u137 u138 u139 u140 u141 u142 u143 u144 u145 u146 u147 u148 u149 u150 u151 u152 u153 u154 u155 u156 u157 u158 u159 u160 u161 u162 u163 u164 u165 u166 u167 u168 u169 u170 u171 u172 u173 u174 u175 u176 u177 u178 u179 u180 u181 u182 u183 u184 u185 u186 u187 u188 u189 u190 u191 u192 u193 u194 u195 u196 u197 u198 u199 u200 u201 u202 u203 u204 u205 u206 u207 u208 u209 u210 u211 u212 u213 u214 u215 u216 u217 u218 u219 u220 u221 u222 u223 u224 u225 u226 u227 u228 u7 : Value} (h : Hid (Out3 w T u5 u6 wr)) : WX w s T ⟨#[.string s, undef, u2, u3, u4, u5, u6, u7, u8, u9, u10, u11, u12, u13, u14, u15, u16, u17, u18, u19, .string s, .int .i64 (s.size : Int), .bool false, u23, u24, u25, u26, u27, u28, u29, u30, u31, u32, u33, u34, u35, u36, u37, u38, u39, u40, u41, u42, u43, u44, u45, u46, u47, u48, u49, u50, u51, u52, u53, u54, u55, u56, u57, u58, u59, u60, u61, u62, u63, u64, u65, u66, u67, u68, u69, u70, u71, u72, u73, u74, u75, u76, u77, u78, u79, u80, u81, u82, u83, u84, u85, u86, u87, u88, u89, u90, u91, u92, u93, u94, u95, u96, u97, u98, u99, u100, u101, u102, u103, u104, u105, u106, u107, u108, u109, u110, u111, u112, u113, u114, u115, u116, u117, u118, u119, u120, u121, u122, u123, u124, u125, u126, u127, u128, u129, u130, u131, u132, u133, u134, u135, u136, u137, u138, u139, u140, u141, u142, u143, u144, u145, u146, u147, u148, u149, u150, u151, u152, u153, u154, u155, u156, u157, u158, u159, u160, u161, u162, u163, u164, u165, u166, u167, u168, u169, u170, u171, u172, u173, u174, u175, u176, u177, u178, u179, u180, u181, u182, u183, u184, u185, u186, u187, u188, u189, u190, u191, u192, u193, u194, u195, u196, u197, u198, u199, u200, u201, u202, u203, u204, u205, u206, u207, u208, u209, u210, u211, u212, u213, u214, u215, u216, u217, u218, u219, u220, u221, u222, u223, u224, u225, u226, u227, u228, undef, undef, undef, undef, undef, undef, undef, undef, undef, undef, undef, undef, undef], []⟩ wr :=
  ⟨fun n => [undef, undef, u2, u3, u4, u5, u6, u7, u8, u9, u10, u11, u12, u13, u14, u15, u16, u17, u18, u19, undef, undef, undef, u23, u24, u25, u26, u27, u28, u29, u30, u31, u32, u33, u34, u35, u36, u37, u38, u39, u40, u41, u42, u43, u44, u45, u46, u47, u48, u49, u50, u51, u52, u53, u54, u55, u56, u57, u58, u59, u60, u61, u62, u63, u64, u65, u66, u67, u68, u69, u70, u71, u72, u73, u74, u75, u76, u77, u78, u79, u80, u81, u82, u83, u84, u85, u86, u87, u88, u89, u90, u91, u92, u93, u94, u95, u96, u97, u98, u99, u100, u101, u102, u103, u104, u105, u106, u107, u108, u109, u110, u111, u112, u113, u114, u115, u116, u117, u118, u119, u120, u121, u122, u123, u124, u125, u126, u127, u128, u129, u130, u131, u132, u133, u134, u135, u136, u137, u138, u139, u140, u141, u142, u143, u144, u145, u146, u147, u148, u149, u150, u151, u152, u153, u154, u155, u156, u157, u158, u159, u160, u161, u162, u163, u164, u165, u166, u167, u168, u169, u170, u171, u172, u173, u174, u175, u176, u177, u178, u179, u180, u181, u182, u183, u184, u185, u186, u187, u188, u189, u190, u191, u192, u193, u194, u195, u196, u197, u198, u199, u200, u201, u202, u203, u204, u205, u206, u207, u208, u209, u210, u211, u212, u213, u214, u215, u216, u217, u218, u219, u220, u221, u222, u223, u224, u225, u226, u227, u228, undef, undef, undef, undef, undef, undef, undef, undef, undef, undef, undef, undef, undef].getD n undef, h, rfl⟩

end Go.Proofs.YtlmpdfeidjnmnaaDoor

/- The document's 'Lex': its inner loops. -/
namespace Go.Proofs.YtlmpdfeidjnmnaaDoor
open Go.RowKit

/-- The loop over the awaited texts; the loop over a Word's things. -/
noncomputable def nlBody : Code := ((loopsIn lexBody)[0]?).getD .skip
noncomputable def wdBody : Code := ((loopsIn lexBody)[1]?).getD .skip
/-- A relation of some slots (5, 6, 7, 10, 11, 16, 17). -/
abbrev Slots := Value → Value → Value → Value → Value → Value → Value → World → Prop
set_option maxRecDepth 1000000 in
def WF (s : ByteArray) (Rel : Slots) (a : Act) (wr : World) : Prop := ∃ f : Nat → Value, Rel (f 5) (f 6) (f 7) (f 10) (f 11) (f 16) (f 17) wr ∧ a = ⟨#[.string s, undef, f 2, f 3, f 4, f 5, f 6, f 7, f 8, f 9, f 10, f 11, f 12, f 13, f 14, f 15, f 16, f 17, f 18, f 19, .string s, .int .i64 (s.size : Int), .bool false, f 23, f 24, f 25, f 26, f 27, f 28, f 29, f 30, f 31, f 32, f 33, f 34, f 35, f 36, f 37, f 38, f 39, f 40, f 41, f 42, f 43, f 44, f 45, f 46, f 47, f 48, f 49, f 50, f 51, f 52, f 53, f 54, f 55, f 56, f 57, f 58, f 59, f 60, f 61, f 62, f 63, f 64, f 65, f 66, f 67, f 68, f 69, f 70, f 71, f 72, f 73, f 74, f 75, f 76, f 77, f 78, f 79, f 80, f 81, f 82, f 83, f 84, f 85, f 86, f 87, f 88, f 89, f 90, f 91, f 92, f 93, f 94, f 95, f 96, f 97, f 98, f 99, f 100, f 101, f 102, f 103, f 104, f 105, f 106, f 107, f 108, f 109, f 110, f 111, f 112, f 113, f 114, f 115, f 116, f 117, f 118, f 119, f 120, f 121, f 122, f 123, f 124, f 125, f 126, f 127, f 128, f 129, f 130, f 131, f 132, f 133, f 134, f 135, f 136, f 137, f 138, f 139, f 140, f 141, f 142, f 143, f 144, f 145, f 146, f 147, f 148, f 149, f 150, f 151, f 152, f 153, f 154, f 155, f 156, f 157, f 158, f 159, f 160, f 161, f 162, f 163, f 164, f 165, f 166, f 167, f 168, f 169, f 170, f 171, f 172, f 173, f 174, f 175, f 176, f 177, f 178, f 179, f 180, f 181, f 182, f 183, f 184, f 185, f 186, f 187, f 188, f 189, f 190, f 191, f 192, f 193, f 194, f 195, f 196, f 197, f 198, f 199, f 200, f 201, f 202, f 203, f 204, f 205, f 206, f 207, f 208, f 209, f 210, f 211, f 212, f 213, f 214, f 215, f 216, f 217, f 218, f 219, f 220, f 221, f 222, f 223, f 224, f 225, f 226, f 227, f 228, undef, undef, undef, undef, undef, undef, undef, undef, undef, undef, undef, undef, undef], []⟩
set_option maxRecDepth 1000000 in
theorem WF_intro {s : ByteArray} {Rel : Slots} {wr : World} {u2 u3 u4 u5 u6 u7 u8 u9 u10 u11 u12 u13 u14 u15 u16 u17 u18 u19 u23 u24 u25 u26 u27 u28 u29 u30 u31 u32 u33 u34 u35 u36 u37 u38 u39 u40 u41 u42 u43 u44 u45 u46 u47 u48 u49 u50 u51 u52 u53 u54 u55 u56 u57 u58 u59 u60 u61 u62 u63 u64 u65 u66 u67 u68 u69 u70 u71 u72 u73 u74 u75 u76 u77 u78 u79 u80 u81 u82 u83 u84 u85 u86 u87 u88 u89 u90 u91 u92 u93 u94 u95 u96 u97 u98 u99 u100 u101 u102 u103 u104 u105 u106 u107 u108 u109 u110 u111 u112 u113 u114 u115 u116 u117 u118 u119 u120 u121 u122 u123 u124 u125 u126 u127 u128 u129 u130 u131 u132 u133 u134 u135 u136 u137 u138 u139 u140 u141 u142 u143 u144 u145 u146 u147 u148 u149 u150 u151 u152 u153 u154 u155 u156 u157 u158 u159 u160 u161 u162 u163 u164 u165 u166 u167 u168 u169 u170 u171 u172 u173 u174 u175 u176 u177 u178 u179 u180 u181 u182 u183 u184 u185 u186 u187 u188 u189 u190 u191 u192 u193 u194 u195 u196 u197 u198 u199 u200 u201 u202 u203 u204 u205 u206 u207 u208 u209 u210 u211 u212 u213 u214 u215 u216 u217 u218 u219 u220 u221 u222 u223 u224 u225 u226 u227 u228 : Value} (h : Rel u5 u6 u7 u10 u11 u16 u17 wr) : WF s Rel ⟨#[.string s, undef, u2, u3, u4, u5, u6, u7, u8, u9, u10, u11, u12, u13, u14, u15, u16, u17, u18, u19, .string s, .int .i64 (s.size : Int), .bool false, u23, u24, u25, u26, u27, u28, u29, u30, u31, u32, u33, u34, u35, u36, u37, u38, u39, u40, u41, u42, u43, u44, u45, u46, u47, u48, u49, u50, u51, u52, u53, u54, u55, u56, u57, u58, u59, u60, u61, u62, u63, u64, u65, u66, u67, u68, u69, u70, u71, u72, u73, u74, u75, u76, u77, u78, u79, u80, u81, u82, u83, u84, u85, u86, u87, u88, u89, u90, u91, u92, u93, u94, u95, u96, u97, u98, u99, u100, u101, u102, u103, u104, u105, u106, u107, u108, u109, u110, u111, u112, u113, u114, u115, u116, u117, u118, u119, u120, u121, u122, u123, u124, u125, u126, u127, u128, u129, u130, u131, u132, u133, u134, u135, u136, u137, u138, u139, u140, u141, u142, u143, u144, u145, u146, u147, u148, u149, u150, u151, u152, u153, u154, u155, u156, u157, u158, u159, u160, u161, u162, u163, u164, u165, u166, u167, u168, u169, u170, u171, u172, u173, u174, u175, u176, u177, u178, u179, u180, u181, u182, u183, u184, u185, u186, u187, u188, u189, u190, u191, u192, u193, u194, u195, u196, u197, u198, u199, u200, u201, u202, u203, u204, u205, u206, u207, u208, u209, u210, u211, u212, u213, u214, u215, u216, u217, u218, u219, u220, u221, u222, u223, u224, u225, u226, u227, u228, undef, undef, undef, undef, undef, undef, undef, undef, undef, undef, undef, undef, undef], []⟩ wr :=
  ⟨fun n => [undef, undef, u2, u3, u4, u5, u6, u7, u8, u9, u10, u11, u12, u13, u14, u15, u16, u17, u18, u19, undef, undef, undef, u23, u24, u25, u26, u27, u28, u29, u30, u31, u32, u33, u34, u35, u36, u37, u38, u39, u40, u41, u42, u43, u44, u45, u46, u47, u48, u49, u50, u51, u52, u53, u54, u55, u56, u57, u58, u59, u60, u61, u62, u63, u64, u65, u66, u67, u68, u69, u70, u71, u72, u73, u74, u75, u76, u77, u78, u79, u80, u81, u82, u83, u84, u85, u86, u87, u88, u89, u90, u91, u92, u93, u94, u95, u96, u97, u98, u99, u100, u101, u102, u103, u104, u105, u106, u107, u108, u109, u110, u111, u112, u113, u114, u115, u116, u117, u118, u119, u120, u121, u122, u123, u124, u125, u126, u127, u128, u129, u130, u131, u132, u133, u134, u135, u136, u137, u138, u139, u140, u141, u142, u143, u144, u145, u146, u147, u148, u149, u150, u151, u152, u153, u154, u155, u156, u157, u158, u159, u160, u161, u162, u163, u164, u165, u166, u167, u168, u169, u170, u171, u172, u173, u174, u175, u176, u177, u178, u179, u180, u181, u182, u183, u184, u185, u186, u187, u188, u189, u190, u191, u192, u193, u194, u195, u196, u197, u198, u199, u200, u201, u202, u203, u204, u205, u206, u207, u208, u209, u210, u211, u212, u213, u214, u215, u216, u217, u218, u219, u220, u221, u222, u223, u224, u225, u226, u227, u228, undef, undef, undef, undef, undef, undef, undef, undef, undef, undef, undef, undef, undef].getD n undef, h, rfl⟩

set_option maxRecDepth 1000000 in
def WRet (w : World) (s : ByteArray) (T : LS) (a : Act) (wr : World) : Prop := ∃ f : Nat → Value, RPost w T (.returned (.tuple #[f 2, f 3, f 4])) wr ∧ a = ⟨#[.string s, undef, f 2, f 3, f 4, f 5, f 6, f 7, f 8, f 9, f 10, f 11, f 12, f 13, f 14, f 15, f 16, f 17, f 18, f 19, .string s, .int .i64 (s.size : Int), .bool false, f 23, f 24, f 25, f 26, f 27, f 28, f 29, f 30, f 31, f 32, f 33, f 34, f 35, f 36, f 37, f 38, f 39, f 40, f 41, f 42, f 43, f 44, f 45, f 46, f 47, f 48, f 49, f 50, f 51, f 52, f 53, f 54, f 55, f 56, f 57, f 58, f 59, f 60, f 61, f 62, f 63, f 64, f 65, f 66, f 67, f 68, f 69, f 70, f 71, f 72, f 73, f 74, f 75, f 76, f 77, f 78, f 79, f 80, f 81, f 82, f 83, f 84, f 85, f 86, f 87, f 88, f 89, f 90, f 91, f 92, f 93, f 94, f 95, f 96, f 97, f 98, f 99, f 100, f 101, f 102, f 103, f 104, f 105, f 106, f 107, f 108, f 109, f 110, f 111, f 112, f 113, f 114, f 115, f 116, f 117, f 118, f 119, f 120, f 121, f 122, f 123, f 124, f 125, f 126, f 127, f 128, f 129, f 130, f 131, f 132, f 133, f 134, f 135, f 136, f 137, f 138, f 139, f 140, f 141, f 142, f 143, f 144, f 145, f 146, f 147, f 148, f 149, f 150, f 151, f 152, f 153, f 154, f 155, f 156, f 157, f 158, f 159, f 160, f 161, f 162, f 163, f 164, f 165, f 166, f 167, f 168, f 169, f 170, f 171, f 172, f 173, f 174, f 175, f 176, f 177, f 178, f 179, f 180, f 181, f 182, f 183, f 184, f 185, f 186, f 187, f 188, f 189, f 190, f 191, f 192, f 193, f 194, f 195, f 196, f 197, f 198, f 199, f 200, f 201, f 202, f 203, f 204, f 205, f 206, f 207, f 208, f 209, f 210, f 211, f 212, f 213, f 214, f 215, f 216, f 217, f 218, f 219, f 220, f 221, f 222, f 223, f 224, f 225, f 226, f 227, f 228, undef, undef, undef, undef, undef, undef, undef, undef, undef, undef, undef, undef, undef], []⟩
set_option maxRecDepth 1000000 in
theorem WRet_intro {w : World} {s : ByteArray} {T : LS} {wr : World} {u2 u3 u4 u5 u6 u7 u8 u9 u10 u11 u12 u13 u14 u15 u16 u17 u18 u19 u23 u24 u25 u26 u27 u28 u29 u30 u31 u32 u33 u34 u35 u36 u37 u38 u39 u40 u41 u42 u43 u44 u45 u46 u47 u48 u49 u50 u51 u52 u53 u54 u55 u56 u57 u58 u59 u60 u61 u62 u63 u64 u65 u66 u67 u68 u69 u70 u71 u72 u73 u74 u75 u76 u77 u78 u79 u80 u81 u82 u83 u84 u85 u86 u87 u88 u89 u90 u91 u92 u93 u94 u95 u96 u97 u98 u99 u100 u101 u102 u103 u104 u105 u106 u107 u108 u109 u110 u111 u112 u113 u114 u115 u116 u117 u118 u119 u120 u121 u122 u123 u124 u125 u126 u127 u128 u129 u130 u131 u132 u133 u134 u135 u136 u137 u138 u139 u140 u141 u142 u143 u144 u145 u146 u147 u148 u149 u150 u151 u152 u153 u154 u155 u156 u157 u158 u159 u160 u161 u162 u163 u164 u165 u166 u167 u168 u169 u170 u171 u172 u173 u174 u175 u176 u177 u178 u179 u180 u181 u182 u183 u184 u185 u186 u187 u188 u189 u190 u191 u192 u193 u194 u195 u196 u197 u198 u199 u200 u201 u202 u203 u204 u205 u206 u207 u208 u209 u210 u211 u212 u213 u214 u215 u216 u217 u218 u219 u220 u221 u222 u223 u224 u225 u226 u227 u228 : Value} (h : RPost w T (.returned (.tuple #[u2, u3, u4])) wr) : WRet w s T ⟨#[.string s, undef, u2, u3, u4, u5, u6, u7, u8, u9, u10, u11, u12, u13, u14, u15, u16, u17, u18, u19, .string s, .int .i64 (s.size : Int), .bool false, u23, u24, u25, u26, u27, u28, u29, u30, u31, u32, u33, u34, u35, u36, u37, u38, u39, u40, u41, u42, u43, u44, u45, u46, u47, u48, u49, u50, u51, u52, u53, u54, u55, u56, u57, u58, u59, u60, u61, u62, u63, u64, u65, u66, u67, u68, u69, u70, u71, u72, u73, u74, u75, u76, u77, u78, u79, u80, u81, u82, u83, u84, u85, u86, u87, u88, u89, u90, u91, u92, u93, u94, u95, u96, u97, u98, u99, u100, u101, u102, u103, u104, u105, u106, u107, u108, u109, u110, u111, u112, u113, u114, u115, u116, u117, u118, u119, u120, u121, u122, u123, u124, u125, u126, u127, u128, u129, u130, u131, u132, u133, u134, u135, u136, u137, u138, u139, u140, u141, u142, u143, u144, u145, u146, u147, u148, u149, u150, u151, u152, u153, u154, u155, u156, u157, u158, u159, u160, u161, u162, u163, u164, u165, u166, u167, u168, u169, u170, u171, u172, u173, u174, u175, u176, u177, u178, u179, u180, u181, u182, u183, u184, u185, u186, u187, u188, u189, u190, u191, u192, u193, u194, u195, u196, u197, u198, u199, u200, u201, u202, u203, u204, u205, u206, u207, u208, u209, u210, u211, u212, u213, u214, u215, u216, u217, u218, u219, u220, u221, u222, u223, u224, u225, u226, u227, u228, undef, undef, undef, undef, undef, undef, undef, undef, undef, undef, undef, undef, undef], []⟩ wr :=
  ⟨fun n => [undef, undef, u2, u3, u4, u5, u6, u7, u8, u9, u10, u11, u12, u13, u14, u15, u16, u17, u18, u19, undef, undef, undef, u23, u24, u25, u26, u27, u28, u29, u30, u31, u32, u33, u34, u35, u36, u37, u38, u39, u40, u41, u42, u43, u44, u45, u46, u47, u48, u49, u50, u51, u52, u53, u54, u55, u56, u57, u58, u59, u60, u61, u62, u63, u64, u65, u66, u67, u68, u69, u70, u71, u72, u73, u74, u75, u76, u77, u78, u79, u80, u81, u82, u83, u84, u85, u86, u87, u88, u89, u90, u91, u92, u93, u94, u95, u96, u97, u98, u99, u100, u101, u102, u103, u104, u105, u106, u107, u108, u109, u110, u111, u112, u113, u114, u115, u116, u117, u118, u119, u120, u121, u122, u123, u124, u125, u126, u127, u128, u129, u130, u131, u132, u133, u134, u135, u136, u137, u138, u139, u140, u141, u142, u143, u144, u145, u146, u147, u148, u149, u150, u151, u152, u153, u154, u155, u156, u157, u158, u159, u160, u161, u162, u163, u164, u165, u166, u167, u168, u169, u170, u171, u172, u173, u174, u175, u176, u177, u178, u179, u180, u181, u182, u183, u184, u185, u186, u187, u188, u189, u190, u191, u192, u193, u194, u195, u196, u197, u198, u199, u200, u201, u202, u203, u204, u205, u206, u207, u208, u209, u210, u211, u212, u213, u214, u215, u216, u217, u218, u219, u220, u221, u222, u223, u224, u225, u226, u227, u228, undef, undef, undef, undef, undef, undef, undef, undef, undef, undef, undef, undef, undef].getD n undef, h, rfl⟩

/-- How far the loop over the awaited texts is. -/
structure NAt (w : World) (s : ByteArray) (st0 : LS) (pos : Int) (v u : Value) (q k tb : Nat) (stk : LS) (wr : World) : Prop where
  eq : stk = (st0.wait.take k).foldl takeUpL st0
  le : k ≤ st0.wait.length
  flt : stk.flt = 0
  rws : Rws w.heap.size wr v u stk
  rest : s.data.toList.drop q = stk.rest
  qle : q ≤ s.size
  tok : Blk wr tb 65 #[.int .i64 3, .string ⟨#[10]⟩, .int .i64 pos, .string ⟨#[]⟩, .bool false]
  tge : w.heap.size ≤ tb
  tne : some tb ≠ v.ownBlock
  below : Below w.heap.size w wr
def NRel (w : World) (s : ByteArray) (st0 : LS) (pos : Int) : Slots := fun v u i t kv _ _ wr => ∃ (q k tb : Nat) (stk : LS), i = .int .i64 (q : Int) ∧ t = .pointer (some ⟨tb, 0, none⟩) ∧ kv = .int .i64 (k : Int) ∧ Hid (NAt w s st0 pos v u q k tb stk wr)
def NX (w : World) (s : ByteArray) (st0 : LS) (pos : Int) : Slots := fun v u i t _ _ _ wr => ∃ (q tb : Nat) (stk : LS), i = .int .i64 (q : Int) ∧ t = .pointer (some ⟨tb, 0, none⟩) ∧ Hid (NAt w s st0 pos v u q st0.wait.length tb stk wr)
def Nmu (st0 : LS) (a : Act) : Nat := st0.wait.length - (intOf (a.tmps.getD 11 undef)).toNat
theorem NAt.next {w : World} {s : ByteArray} {st0 : LS} {pos : Int} {v u : Value} {q k tb : Nat} {stk : LS} {wr : World} (h : NAt w s st0 pos v u q k tb stk wr) {x : Wt} (hx : st0.wait[k]? = some x) : takeUpL stk x = (st0.wait.take (k + 1)).foldl takeUpL st0 := by
  rw [List.take_add_one, hx, List.foldl_append, ← h.eq]
  rfl
theorem suf_drop {s : ByteArray} {q : Nat} {r : List UInt8} (hq : q ≤ s.size) (h : r <:+ s.data.toList.drop q) : s.data.toList.drop (s.size - r.length) = r ∧ q ≤ s.size - r.length := by
  have hl := h.length_le
  have he := List.suffix_iff_eq_drop.1 h
  rw [List.length_drop, data_len] at he hl
  rw [List.drop_drop] at he
  refine ⟨?_, by omega⟩
  rw [show s.size - r.length = q + (s.size - q - r.length) by omega]
  exact he.symm

theorem foldl_bad (ws : List Wt) : ∀ st : LS, st.flt ≠ 0 → ws.foldl takeUpL st = st := by
  induction ws with
  | nil => intro st _; rfl
  | cons x ws ih =>
    intro st h
    have e : takeUpL st x = st := by unfold takeUpL; rw [if_neg h]
    rw [List.foldl_cons, e, ih st h]
theorem NAt.all {w : World} {s : ByteArray} {st0 : LS} {pos : Int} {v u : Value} {q k tb : Nat} {stk : LS} {wr : World} (h : NAt w s st0 pos v u q k tb stk wr) {x : Wt} (hx : st0.wait[k]? = some x) (hb : (takeUpL stk x).flt ≠ 0) : st0.wait.foldl takeUpL st0 = takeUpL stk x := by
  have e : st0.wait = st0.wait.take (k + 1) ++ st0.wait.drop (k + 1) := (List.take_append_drop _ _).symm
  rw [h.next hx] at hb ⊢
  conv => lhs; arg 3; rw [e]
  rw [List.foldl_append]
  exact foldl_bad _ _ hb
/-- One awaited text is there. -/
theorem NAt.up {w : World} {s : ByteArray} {st0 : LS} {pos : Int} {u : Value} {q k tb g5 n5 cap5 m nq : Nat} {stk : LS} {wr : World} {x : Wt} {b r : List UInt8} (h : NAt w s st0 pos (.slice (some ⟨g5, 0, none⟩) n5 cap5) u q k tb stk wr) (hx : st0.wait[k]? = some x) (htk : takeL (stk.rest.length + 1) x.tabs x.en stk.rest [] = some (b, r)) (hn5 : n5 = stk.toks.length) (htl : x.tok < n5) (hd : s.data.toList.drop m = r) (hm : m ≤ s.size) (hb5 : w.heap.size ≤ g5) : NAt w s st0 pos (.slice (some ⟨g5, 0, none⟩) n5 cap5) u m (k + 1) tb (takeUpL stk x) ((wr.drewN nq).setCell ⟨g5, x.tok * 5 + 3, none⟩ (.string (BA b))) := by
  have hup : takeUpL stk x = { stk with rest := r, toks := stk.toks.modify x.tok (fun t => { t with body := BA b }) } := by
    unfold takeUpL
    rw [if_pos h.flt, htk]
  have hk := (List.getElem?_eq_some_iff.1 hx).1
  have h1 := h.rws.keep (below_drew wr nq)
  have ho := h1.out
  rw [← hn5] at ho
  have hst := World.ownsRow.stored ho (x.tok * 5 + 3) (.string (BA b))
  have hfl := flatT_set (fun t => { t with body := BA b }) 3 (.string (BA b)) (by decide) (fun t => rfl) stk.toks x.tok (by omega)
  refine ⟨h.next hx, by omega, by rw [hup]; exact h.flt, ⟨?_, ?_⟩, by rw [hup]; exact hd, hm, ?_, h.tge, h.tne, ?_⟩
  · have := hst.1
    rw [hfl] at this
    rw [hup]
    show World.ownsRow _ _ _ _ _ (stk.toks.modify x.tok _).length (flatT (stk.toks.modify x.tok _))
    rw [List.length_modify, ← hn5]
    exact this
  · rw [hup]
    exact h1.wts.kept hst.2 (by have := row_ne h1.wts h1.out (by decide); simpa [Value.ownBlock] using this)
  · have hne : tb ≠ g5 := fun e => h.tne (by rw [e]; rfl)
    exact (Below.heap_setCell (wr.drewN nq) _ _ tb hne).trans h.tok
  · exact (h.below.trans ((below_drew wr nq).mono h.below.size)).setCell hb5 _

end Go.Proofs.YtlmpdfeidjnmnaaDoor

/- The document's 'Lex': how far the loop over a Word's things is. -/
namespace Go.Proofs.YtlmpdfeidjnmnaaDoor
open Go.RowKit

structure WAt (w : World) (s : ByteArray) (st : LS) (v u : Value) (q p : Nat) (X : Rs) (fu : Nat) (wr : World) : Prop where
  qle : q ≤ p
  ple : p ≤ s.size
  rws : Rws w.heap.size wr v u st
  below : Below w.heap.size w wr
  eq : X = wordL fu (s.data.toList.drop p)
  fuel : s.size - p + 1 ≤ fu
structure WDone (w : World) (s : ByteArray) (st : LS) (v u : Value) (q p : Nat) (X : Rs) (wr : World) : Prop where
  qle : q ≤ p
  ple : p ≤ s.size
  rws : Rws w.heap.size wr v u st
  below : Below w.heap.size w wr
  eq : X = .ok (s.data.toList.drop p)
def WRel (w : World) (s : ByteArray) (st : LS) (q : Nat) (X : Rs) : Slots := fun v u i _ _ fr _ wr => ∃ (p fu : Nat), i = .int .i64 (p : Int) ∧ fr = .int .i64 (q : Int) ∧ Hid (WAt w s st v u q p X fu wr)
def WXR (w : World) (s : ByteArray) (st : LS) (q : Nat) (X : Rs) : Slots := fun v u i _ _ fr _ wr => ∃ (p : Nat), i = .int .i64 (p : Int) ∧ fr = .int .i64 (q : Int) ∧ Hid (WDone w s st v u q p X wr)
theorem WAt.thing {w : World} {s : ByteArray} {st : LS} {v u : Value} {q p fu : Nat} {X : Rs} {wr : World} (h : WAt w s st v u q p X fu wr) (hp : p < s.size) (hm : metB (s[p].toNat : Int) = false) :
    (∀ e m, thg (3 * (s.size - p) + 3) (s.data.toList.drop p) 0 0 = .err e m → X = .err e m) ∧
    (∀ l, thg (3 * (s.size - p) + 3) (s.data.toList.drop p) 0 0 = .ok l → s.data.toList.drop (s.size - l.length) = l ∧ p < s.size - l.length ∧ X = wordL (fu - 1) l) := by
  obtain ⟨f, rfl⟩ : ∃ f, fu = f + 1 := ⟨fu - 1, by have := h.fuel; omega⟩
  have hd := drop_at hp
  have hl : (s.data.toList.drop (p + 1)).length + 1 = s.size - p := by rw [List.length_drop, data_len]; omega
  have heq := h.eq
  rw [hd, wordL_cons, hm, hl] at heq
  simp only [Bool.false_eq_true, if_false] at heq
  refine ⟨fun e m ht => ?_, fun l ht => ?_⟩
  · rw [hd] at ht
    rw [ht] at heq
    exact heq
  · have hsuf : l <:+ s.data.toList.drop p := by
      obtain ⟨t, e⟩ := thg_suf ht
      exact ⟨t, e.symm⟩
    have hlen : l.length ≤ (s.data.toList.drop (p + 1)).length := by
      have := thg_len (3 * (s.size - p) + 2) s[p] (s.data.toList.drop (p + 1)) 0 0
      rw [← hd, show 3 * (s.size - p) + 2 + 1 = 3 * (s.size - p) + 3 by omega, ht] at this
      exact this
    have h2 := suf_drop h.ple hsuf
    rw [hd] at ht
    rw [ht] at heq
    refine ⟨h2.1, ?_, heq⟩
    rw [List.length_drop, data_len] at hlen
    omega

end Go.Proofs.YtlmpdfeidjnmnaaDoor

/- The document's 'Lex': a Word whose things are read. -/
namespace Go.Proofs.YtlmpdfeidjnmnaaDoor
open Go.RowKit

/-- What follows the last loop. -/
def contOf : Code → Option Code
  | .seq a b => if (loopsIn b).isEmpty then (if (loopsIn a).isEmpty then none else match contOf a with
    | some c => some (.seq c b)
    | none => some b) else contOf b
  | .block _ c => contOf c
  | .scope c => contOf c
  | .cond _ a b => if (loopsIn b).isEmpty then contOf a else contOf b
  | _ => none
noncomputable def wdTail : Code := (contOf lexBody).getD .skip

structure WEnd (w : World) (s : ByteArray) (T st : LS) (v u : Value) (q p : Nat) (Wd : List UInt8) (G : Nat) (wr : World) : Prop where
  at0 : RAt w s T wr v u q st (G + 1)
  cr : ∃ c R, st.rest = c :: R
  qlt : q < p
  ple : p ≤ s.size
  word : s.extract q p = BA Wd
  wlen : Wd.length = p - q
  step : stepR s.size st = if digsB Wd && ((s.data.toList.drop p).head? == some 60 || (s.data.toList.drop p).head? == some 62) then ({ st with rest := s.data.toList.drop p } : LS).add 4 Wd (q : Int) else (awaitL { st with rest := s.data.toList.drop p } Wd).add 1 Wd (q : Int)
  few : Few s.size (stepR s.size st)
  kin : KInv (stepR s.size st)
theorem WEnd.next {w : World} {s : ByteArray} {T st : LS} {v u : Value} {q p : Nat} {Wd : List UInt8} {G : Nat} {wr : World} (h : WEnd w s T st v u q p Wd G wr) {st' : LS} {w1 : World} {v' u' : Value} (hst : stepR s.size st = st') (hf : st'.flt = 0) (hb : st'.blm = 0) (hr : st'.rest = s.data.toList.drop p) (hrw : Rws w.heap.size w1 v' u' st') (hbel : Below w.heap.size w w1) : RAt w s T w1 v' u' p st' G := by
  obtain ⟨c, R, hcr⟩ := h.cr
  refine RAt.step h.at0 hcr hst hf hb hrw hr.symm h.ple (by rw [← hst]; exact h.few) (by rw [← hst]; exact h.kin) ?_ hbel
  rw [hr, ← h.at0.rest, List.length_drop, List.length_drop, data_len]
  have := h.qlt
  have := h.ple
  omega
theorem toList_eq_BA {x : ByteArray} {l : List UInt8} (h : x.toList = l) : x = BA l := by
  rw [ByteArray.toList_eq] at h
  rw [← h]
  rfl
theorem head_at {s : ByteArray} {p : Nat} (hp : p < s.size) : (s.data.toList.drop p).head? = some s[p] := by rw [drop_at hp]; rfl

end Go.Proofs.YtlmpdfeidjnmnaaDoor

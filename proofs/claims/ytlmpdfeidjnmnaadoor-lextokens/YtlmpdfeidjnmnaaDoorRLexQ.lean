/-
  The document's 'Lex': a blank.
  The document's 'Lex': a line joined to the next.
  The document's 'Lex': a comment.
  The document's 'Lex': an operator.
  The document's 'Lex': an awaited text.
  The document's 'Lex': an awaited text that is not there.
  The document's 'Lex': the end of the loop over the awaited texts.
  The document's 'Lex': the loop over the awaited texts.
  The document's 'Lex': a newline.
  The document's 'Lex': a thing of a Word.
  The document's 'Lex': a thing of a Word that is not closed.
  The document's 'Lex': a Word's end.
  The document's 'Lex': the loop over a Word's things.
-/
import Derived.Test.YtlmpdfeidjnmnaaDoorRLexDE
import Derived.Deep.QuietTactic
import Derived.BigQuiet

/- The document's 'Lex': a blank. -/
namespace Go.Proofs.YtlmpdfeidjnmnaaDoor
open Go.RowKit

set_option maxRecDepth 1000000 in
set_option maxHeartbeats 40000000 in
theorem rl_blank {s : ByteArray} {w wr : World} {T st : LS} {q G : Nat} {c : UInt8} {R : List UInt8} {K : Act → World → Prop} {u2 u3 u4 u5 u6 u8 u9 u10 u11 u12 u13 u14 u15 u16 u17 u18 u19 u23 u24 u25 u26 u27 u28 u29 u30 u31 u32 u33 u34 u35 u36 u37 u38 u39 u40 u41 u42 u43 u44 u45 u46 u47 u48 u49 u50 u51 u52 u53 u54 u55 u56 u57 u58 u59 u60 u61 u62 u63 u64 u65 u66 u67 u68 u69 u70 u71 u72 u73 u74 u75 u76 u77 u78 u79 u80 u81 u82 u83 u84 u85 u86 u87 u88 u89 u90 u91 u92 u93 u94 u95 u96 u97 u98 u99 u100 u101 u102 u103 u104 u105 u106 u107 u108 u109 u110 u111 u112 u113 u114 u115 u116 u117 u118 u119 u120 u121 u122 u123 u124 u125 u126 u127 u128 u129 u130 u131 u132 u133 u134 u135 u136 u137 u138 u139 u140 u141 u142 u143 u144 u145 u146 u147 u148 u149 u150 u151 u152 u153 u154 u155 u156 u157 u158 u159 u160 u161 u162 u163 u164 u165 u166 u167 u168 u169 u170 u171 u172 u173 u174 u175 u176 u177 u178 u179 u180 u181 u182 u183 u184 u185 u186 u187 u188 u189 u190 u191 u192 u193 u194 u195 u196 u197 u198 u199 u200 u201 u202 u203 u204 u205 u206 u207 u208 u209 u210 u211 u212 u213 u214 u215 u216 u217 u218 u219 u220 u221 u222 u223 u224 u225 u226 u227 u228 : Value} (hs : s.size ≤ 100000) (hlt : q < s.size) (HCC : Hid (c = s[q])) (HRR : Hid (R = s.data.toList.drop (q + 1))) (HCR : Hid (st.rest = c :: R)) (HR : Hid (RAt w s T wr u5 u6 q st (G + 1))) (hbl : Hid (blkB (c.toNat : Int) = true)) :
    Code.wp Tryd.prog lexBody (Exit.then (fun a' w'' => WI w s T a' w'' ∧ Wmu s a' < s.size - q) (Exit.inBlock 0 (Exit.then K (bodyPost Tryd.prog Tryd.f13 (RPost w T))))) ⟨#[.string s, undef, u2, u3, u4, u5, u6, .int .i64 (q : Int), u8, u9, u10, u11, u12, u13, u14, u15, u16, u17, u18, u19, .string s, .int .i64 (s.size : Int), .bool false, u23, u24, u25, u26, u27, u28, u29, u30, u31, u32, u33, u34, u35, u36, u37, u38, u39, u40, u41, u42, u43, u44, u45, u46, u47, u48, u49, u50, u51, u52, u53, u54, u55, u56, u57, u58, u59, u60, u61, u62, u63, u64, u65, u66, u67, u68, u69, u70, u71, u72, u73, u74, u75, u76, u77, u78, u79, u80, u81, u82, u83, u84, u85, u86, u87, u88, u89, u90, u91, u92, u93, u94, u95, u96, u97, u98, u99, u100, u101, u102, u103, u104, u105, u106, u107, u108, u109, u110, u111, u112, u113, u114, u115, u116, u117, u118, u119, u120, u121, u122, u123, u124, u125, u126, u127, u128, u129, u130, u131, u132, u133, u134, u135, u136, u137, u138, u139, u140, u141, u142, u143, u144, u145, u146, u147, u148, u149, u150, u151, u152, u153, u154, u155, u156, u157, u158, u159, u160, u161, u162, u163, u164, u165, u166, u167, u168, u169, u170, u171, u172, u173, u174, u175, u176, u177, u178, u179, u180, u181, u182, u183, u184, u185, u186, u187, u188, u189, u190, u191, u192, u193, u194, u195, u196, u197, u198, u199, u200, u201, u202, u203, u204, u205, u206, u207, u208, u209, u210, u211, u212, u213, u214, u215, u216, u217, u218, u219, u220, u221, u222, u223, u224, u225, u226, u227, u228, undef, undef, undef, undef, undef, undef, undef, undef, undef, undef, undef, undef, undef], []⟩ wr := by
  conv => arg 2; whnf
  have hlt' : (q : Int) < (s.size : Int) := by omega
  have hq0 : (0 : Int) ≤ (q : Int) := by omega
  obtain ⟨q1, hq1⟩ : ∃ y, y = q + 1 := ⟨_, rfl⟩
  rw [← hq1] at HRR
  have hwq : IntKind.i64.wrap ((q : Int) + 1) = (q1 : Int) := by rw [IntKind.wrap_i64]; omega
  have hq1s : q < q1 ∧ q1 ≤ s.size ∧ q1 ≤ q + 1 := by omega
  have htl : st.toks.length ≤ s.size := (unhide HR).few.toks
  have hwl : st.wait.length ≤ s.size := by have := (unhide HR).few.wait; omega
  have hRl : R.length = s.size - q1 := by rw [unhide HRR, List.length_drop, data_len]
  have HQ1 := hide hq1
  clear hq1
  obtain ⟨O, hO⟩ : ∃ O, O = opL (c :: R) := ⟨_, rfl⟩
  have HOP : Hid (Calls Tryd.prog 23 #[.string s, .int .i64 (q : Int)] wr fun e w' => e = .returned (.string (BA O)) ∧ Below wr.heap.size wr w') := hide (by
    have := rop_any s q wr hs (Nat.le_of_lt hlt)
    rwa [(unhide HR).rest, unhide HCR, ← hO] at this)
  have HO := hide hO
  clear hO
  go_wp2_with fail
  refine (unhide HOP).mono ?_
  rintro en w1 ⟨rfl, b1⟩
  have H1 := hide ((unhide HR).keep b1)
  clear b1 HOP HR
  go_wp2_with fail
  refine (rblank_any _ _).mono ?_
  rintro en w2 ⟨rfl, hw2⟩
  rw [show w2 = w1 from hw2]
  clear hw2
  have hbl' : blkB (s[q].toNat : Int) = true := by rw [← unhide HCC]; exact unhide hbl
  rw [hbl']
  have hst : stepR s.size st = { st with rest := R } := by
    unfold stepR
    rw [unhide HCR]
    simp only
    rw [if_pos (unhide hbl)]
  have HS := hide (RAt.step (q' := q1) (unhide H1) (unhide HCR) hst (unhide H1).flt (unhide H1).blm ((unhide H1).rws.rest R) (unhide HRR).symm hq1s.2.1 (few_rest (unhide H1).few (unhide H1).flt (by rw [unhide HCR]; simp)) ((unhide H1).kin.of rfl (fun x hx => hx)) (by rw [unhide HCR]; simp) (unhide H1).below)
  clear hst hbl'
  go_wp2
  exact ⟨WI_intro ⟨q1, _, G, rfl, HS⟩, show s.size - q1 < s.size - q by omega⟩

end Go.Proofs.YtlmpdfeidjnmnaaDoor

/- The document's 'Lex': a line joined to the next. -/
namespace Go.Proofs.YtlmpdfeidjnmnaaDoor
open Go.RowKit

set_option maxRecDepth 1000000 in
set_option maxHeartbeats 40000000 in
theorem rl_join {s : ByteArray} {w wr : World} {T st : LS} {q G : Nat} {c : UInt8} {R : List UInt8} {K : Act → World → Prop} {u2 u3 u4 u5 u6 u8 u9 u10 u11 u12 u13 u14 u15 u16 u17 u18 u19 u23 u24 u25 u26 u27 u28 u29 u30 u31 u32 u33 u34 u35 u36 u37 u38 u39 u40 u41 u42 u43 u44 u45 u46 u47 u48 u49 u50 u51 u52 u53 u54 u55 u56 u57 u58 u59 u60 u61 u62 u63 u64 u65 u66 u67 u68 u69 u70 u71 u72 u73 u74 u75 u76 u77 u78 u79 u80 u81 u82 u83 u84 u85 u86 u87 u88 u89 u90 u91 u92 u93 u94 u95 u96 u97 u98 u99 u100 u101 u102 u103 u104 u105 u106 u107 u108 u109 u110 u111 u112 u113 u114 u115 u116 u117 u118 u119 u120 u121 u122 u123 u124 u125 u126 u127 u128 u129 u130 u131 u132 u133 u134 u135 u136 u137 u138 u139 u140 u141 u142 u143 u144 u145 u146 u147 u148 u149 u150 u151 u152 u153 u154 u155 u156 u157 u158 u159 u160 u161 u162 u163 u164 u165 u166 u167 u168 u169 u170 u171 u172 u173 u174 u175 u176 u177 u178 u179 u180 u181 u182 u183 u184 u185 u186 u187 u188 u189 u190 u191 u192 u193 u194 u195 u196 u197 u198 u199 u200 u201 u202 u203 u204 u205 u206 u207 u208 u209 u210 u211 u212 u213 u214 u215 u216 u217 u218 u219 u220 u221 u222 u223 u224 u225 u226 u227 u228 : Value} (hs : s.size ≤ 100000) (hlt : q < s.size) (HCC : Hid (c = s[q])) (HRR : Hid (R = s.data.toList.drop (q + 1))) (HCR : Hid (st.rest = c :: R)) (HR : Hid (RAt w s T wr u5 u6 q st (G + 1))) (HBL : Hid (blkB (c.toNat : Int) = false)) (HNL : Hid (c = 92 ∧ R.head? = some 10)) :
    Code.wp Tryd.prog lexBody (Exit.then (fun a' w'' => WI w s T a' w'' ∧ Wmu s a' < s.size - q) (Exit.inBlock 0 (Exit.then K (bodyPost Tryd.prog Tryd.f13 (RPost w T))))) ⟨#[.string s, undef, u2, u3, u4, u5, u6, .int .i64 (q : Int), u8, u9, u10, u11, u12, u13, u14, u15, u16, u17, u18, u19, .string s, .int .i64 (s.size : Int), .bool false, u23, u24, u25, u26, u27, u28, u29, u30, u31, u32, u33, u34, u35, u36, u37, u38, u39, u40, u41, u42, u43, u44, u45, u46, u47, u48, u49, u50, u51, u52, u53, u54, u55, u56, u57, u58, u59, u60, u61, u62, u63, u64, u65, u66, u67, u68, u69, u70, u71, u72, u73, u74, u75, u76, u77, u78, u79, u80, u81, u82, u83, u84, u85, u86, u87, u88, u89, u90, u91, u92, u93, u94, u95, u96, u97, u98, u99, u100, u101, u102, u103, u104, u105, u106, u107, u108, u109, u110, u111, u112, u113, u114, u115, u116, u117, u118, u119, u120, u121, u122, u123, u124, u125, u126, u127, u128, u129, u130, u131, u132, u133, u134, u135, u136, u137, u138, u139, u140, u141, u142, u143, u144, u145, u146, u147, u148, u149, u150, u151, u152, u153, u154, u155, u156, u157, u158, u159, u160, u161, u162, u163, u164, u165, u166, u167, u168, u169, u170, u171, u172, u173, u174, u175, u176, u177, u178, u179, u180, u181, u182, u183, u184, u185, u186, u187, u188, u189, u190, u191, u192, u193, u194, u195, u196, u197, u198, u199, u200, u201, u202, u203, u204, u205, u206, u207, u208, u209, u210, u211, u212, u213, u214, u215, u216, u217, u218, u219, u220, u221, u222, u223, u224, u225, u226, u227, u228, undef, undef, undef, undef, undef, undef, undef, undef, undef, undef, undef, undef, undef], []⟩ wr := by
  conv => arg 2; whnf
  have hlt' : (q : Int) < (s.size : Int) := by omega
  have hq0 : (0 : Int) ≤ (q : Int) := by omega
  obtain ⟨q1, hq1⟩ : ∃ y, y = q + 1 := ⟨_, rfl⟩
  rw [← hq1] at HRR
  have hwq : IntKind.i64.wrap ((q : Int) + 1) = (q1 : Int) := by rw [IntKind.wrap_i64]; omega
  have hq1s : q < q1 ∧ q1 ≤ s.size ∧ q1 ≤ q + 1 := by omega
  have htl : st.toks.length ≤ s.size := (unhide HR).few.toks
  have hwl : st.wait.length ≤ s.size := by have := (unhide HR).few.wait; omega
  have hRl : R.length = s.size - q1 := by rw [unhide HRR, List.length_drop, data_len]
  have HQ1 := hide hq1
  clear hq1
  obtain ⟨O, hO⟩ : ∃ O, O = opL (c :: R) := ⟨_, rfl⟩
  have HOP : Hid (Calls Tryd.prog 23 #[.string s, .int .i64 (q : Int)] wr fun e w' => e = .returned (.string (BA O)) ∧ Below wr.heap.size wr w') := hide (by
    have := rop_any s q wr hs (Nat.le_of_lt hlt)
    rwa [(unhide HR).rest, unhide HCR, ← hO] at this)
  have HO := hide hO
  clear hO
  go_wp2_with fail
  refine (unhide HOP).mono ?_
  rintro en w1 ⟨rfl, b1⟩
  have H1 := hide ((unhide HR).keep b1)
  clear b1 HOP HR
  go_wp2_with fail
  refine (rblank_any _ _).mono ?_
  rintro en w2 ⟨rfl, hw2⟩
  rw [show w2 = w1 from hw2]
  clear hw2
  have hbl' : blkB (s[q].toNat : Int) = false := by rw [← unhide HCC]; exact unhide HBL
  rw [hbl']
  clear hbl'
  have hnl : c = 92 ∧ R.head? = some 10 := unhide HNL
  obtain ⟨q2, hq2⟩ : ∃ y, y = q + 2 := ⟨_, rfl⟩
  have hwq2 : IntKind.i64.wrap ((q : Int) + 2) = (q2 : Int) := by rw [IntKind.wrap_i64]; omega
  have hRh := head_cons hnl.2
  have hRl1 : 1 ≤ R.length := by rw [hRh]; simp
  have hq2s : q2 ≤ s.size ∧ q < q2 := by omega
  have hq1l : q1 < s.size := by omega
  have hq1l' : (q1 : Int) < (s.size : Int) := by omega
  have hq10 : (0 : Int) ≤ (q1 : Int) := by omega
  have hhead : R.head? = some s[q1] := by rw [unhide HRR, drop_at hq1l]; rfl
  have h10 : s[q1] = 10 := by have := hnl.2; rw [hhead] at this; simpa using this
  have v92 : ((s[q].toNat : Int) == 92) = true := by rw [← unhide HCC, hnl.1]; rfl
  have v10 : ((s[q1].toNat : Int) == 10) = true := by rw [h10]; rfl
  have hst : stepR s.size st = { st with rest := R.drop 1 } := by
    unfold stepR
    rw [unhide HCR]
    simp only
    rw [if_neg (by rw [unhide HBL]; decide), if_pos hnl]
  have hdr : s.data.toList.drop q2 = R.drop 1 := by rw [unhide HRR, List.drop_drop, unhide HQ1, hq2]
  have HS := hide (RAt.step (q' := q2) (unhide H1) (unhide HCR) hst (unhide H1).flt (unhide H1).blm ((unhide H1).rws.rest _) hdr hq2s.1 (few_rest (unhide H1).few (unhide H1).flt (by rw [unhide HCR, List.length_drop, List.length_cons]; omega)) ((unhide H1).kin.of rfl (fun x hx => hx)) (by rw [unhide HCR]; show (R.drop 1).length < _; rw [List.length_drop, List.length_cons]; omega) (unhide H1).below)
  clear hst hdr hq2 hRh hnl hhead h10
  go_wp2
  exact ⟨WI_intro ⟨q2, _, G, rfl, HS⟩, show s.size - q2 < s.size - q by omega⟩

end Go.Proofs.YtlmpdfeidjnmnaaDoor

/- The document's 'Lex': a comment. -/
namespace Go.Proofs.YtlmpdfeidjnmnaaDoor
open Go.RowKit

set_option maxRecDepth 1000000 in
set_option maxHeartbeats 40000000 in
theorem rl_comm {s : ByteArray} {w wr : World} {T st : LS} {q G : Nat} {c : UInt8} {R : List UInt8} {K : Act → World → Prop} {u2 u3 u4 u5 u6 u8 u9 u10 u11 u12 u13 u14 u15 u16 u17 u18 u19 u23 u24 u25 u26 u27 u28 u29 u30 u31 u32 u33 u34 u35 u36 u37 u38 u39 u40 u41 u42 u43 u44 u45 u46 u47 u48 u49 u50 u51 u52 u53 u54 u55 u56 u57 u58 u59 u60 u61 u62 u63 u64 u65 u66 u67 u68 u69 u70 u71 u72 u73 u74 u75 u76 u77 u78 u79 u80 u81 u82 u83 u84 u85 u86 u87 u88 u89 u90 u91 u92 u93 u94 u95 u96 u97 u98 u99 u100 u101 u102 u103 u104 u105 u106 u107 u108 u109 u110 u111 u112 u113 u114 u115 u116 u117 u118 u119 u120 u121 u122 u123 u124 u125 u126 u127 u128 u129 u130 u131 u132 u133 u134 u135 u136 u137 u138 u139 u140 u141 u142 u143 u144 u145 u146 u147 u148 u149 u150 u151 u152 u153 u154 u155 u156 u157 u158 u159 u160 u161 u162 u163 u164 u165 u166 u167 u168 u169 u170 u171 u172 u173 u174 u175 u176 u177 u178 u179 u180 u181 u182 u183 u184 u185 u186 u187 u188 u189 u190 u191 u192 u193 u194 u195 u196 u197 u198 u199 u200 u201 u202 u203 u204 u205 u206 u207 u208 u209 u210 u211 u212 u213 u214 u215 u216 u217 u218 u219 u220 u221 u222 u223 u224 u225 u226 u227 u228 : Value} (hs : s.size ≤ 100000) (hlt : q < s.size) (HCC : Hid (c = s[q])) (HRR : Hid (R = s.data.toList.drop (q + 1))) (HCR : Hid (st.rest = c :: R)) (HR : Hid (RAt w s T wr u5 u6 q st (G + 1))) (HBL : Hid (blkB (c.toNat : Int) = false)) (c35 : Hid (c = 35)) :
    Code.wp Tryd.prog lexBody (Exit.then (fun a' w'' => WI w s T a' w'' ∧ Wmu s a' < s.size - q) (Exit.inBlock 0 (Exit.then K (bodyPost Tryd.prog Tryd.f13 (RPost w T))))) ⟨#[.string s, undef, u2, u3, u4, u5, u6, .int .i64 (q : Int), u8, u9, u10, u11, u12, u13, u14, u15, u16, u17, u18, u19, .string s, .int .i64 (s.size : Int), .bool false, u23, u24, u25, u26, u27, u28, u29, u30, u31, u32, u33, u34, u35, u36, u37, u38, u39, u40, u41, u42, u43, u44, u45, u46, u47, u48, u49, u50, u51, u52, u53, u54, u55, u56, u57, u58, u59, u60, u61, u62, u63, u64, u65, u66, u67, u68, u69, u70, u71, u72, u73, u74, u75, u76, u77, u78, u79, u80, u81, u82, u83, u84, u85, u86, u87, u88, u89, u90, u91, u92, u93, u94, u95, u96, u97, u98, u99, u100, u101, u102, u103, u104, u105, u106, u107, u108, u109, u110, u111, u112, u113, u114, u115, u116, u117, u118, u119, u120, u121, u122, u123, u124, u125, u126, u127, u128, u129, u130, u131, u132, u133, u134, u135, u136, u137, u138, u139, u140, u141, u142, u143, u144, u145, u146, u147, u148, u149, u150, u151, u152, u153, u154, u155, u156, u157, u158, u159, u160, u161, u162, u163, u164, u165, u166, u167, u168, u169, u170, u171, u172, u173, u174, u175, u176, u177, u178, u179, u180, u181, u182, u183, u184, u185, u186, u187, u188, u189, u190, u191, u192, u193, u194, u195, u196, u197, u198, u199, u200, u201, u202, u203, u204, u205, u206, u207, u208, u209, u210, u211, u212, u213, u214, u215, u216, u217, u218, u219, u220, u221, u222, u223, u224, u225, u226, u227, u228, undef, undef, undef, undef, undef, undef, undef, undef, undef, undef, undef, undef, undef], []⟩ wr := by
  conv => arg 2; whnf
  have hlt' : (q : Int) < (s.size : Int) := by omega
  have hq0 : (0 : Int) ≤ (q : Int) := by omega
  obtain ⟨q1, hq1⟩ : ∃ y, y = q + 1 := ⟨_, rfl⟩
  rw [← hq1] at HRR
  have hwq : IntKind.i64.wrap ((q : Int) + 1) = (q1 : Int) := by rw [IntKind.wrap_i64]; omega
  have hq1s : q < q1 ∧ q1 ≤ s.size ∧ q1 ≤ q + 1 := by omega
  have htl : st.toks.length ≤ s.size := (unhide HR).few.toks
  have hwl : st.wait.length ≤ s.size := by have := (unhide HR).few.wait; omega
  have hRl : R.length = s.size - q1 := by rw [unhide HRR, List.length_drop, data_len]
  have HQ1 := hide hq1
  clear hq1
  obtain ⟨O, hO⟩ : ∃ O, O = opL (c :: R) := ⟨_, rfl⟩
  have HOP : Hid (Calls Tryd.prog 23 #[.string s, .int .i64 (q : Int)] wr fun e w' => e = .returned (.string (BA O)) ∧ Below wr.heap.size wr w') := hide (by
    have := rop_any s q wr hs (Nat.le_of_lt hlt)
    rwa [(unhide HR).rest, unhide HCR, ← hO] at this)
  have HO := hide hO
  clear hO
  go_wp2_with fail
  refine (unhide HOP).mono ?_
  rintro en w1 ⟨rfl, b1⟩
  have H1 := hide ((unhide HR).keep b1)
  clear b1 HOP HR
  go_wp2_with fail
  refine (rblank_any _ _).mono ?_
  rintro en w2 ⟨rfl, hw2⟩
  rw [show w2 = w1 from hw2]
  clear hw2
  have hbl' : blkB (s[q].toNat : Int) = false := by rw [← unhide HCC]; exact unhide HBL
  rw [hbl']
  clear hbl'
  have HN92 : Hid (c ≠ 92) := hide (by rw [unhide c35]; decide)
  have v92 : ((s[q].toNat : Int) == 92) = false := beq_eq_false_iff_ne.2 (fun e => unhide HN92 (by rw [unhide HCC]; exact UInt8.toNat_inj.1 (show s[q].toNat = 92 by omega)))
  have hnl : ¬ (c = 92 ∧ R.head? = some 10) := fun h => unhide HN92 h.1
  have HNLN := hide hnl
  clear hnl
  have v35 : ((s[q].toNat : Int) == 35) = true := by rw [← unhide HCC, unhide c35]; rfl
  have HST : Hid (stepR s.size st = { st with rest := R.dropWhile (fun x => x != 10) }) := hide (by
    unfold stepR
    rw [unhide HCR]
    simp only
    rw [if_neg (by rw [unhide HBL]; decide), if_neg (unhide HNLN), if_pos (unhide c35)])
  have HDW : Hid ((s.data.toList.drop q).dropWhile (fun x => x != 10) = R.dropWhile (fun x => x != 10)) := hide (by
    rw [(unhide H1).rest, unhide HCR, List.dropWhile_cons, if_pos (by rw [unhide c35]; decide)])
  have HLN := hide (rline_any s q w1 hs (Nat.le_of_lt hlt))
  go_wp2_with fail
  refine (unhide HLN).mono ?_
  rintro en w3 ⟨k, k2, rfl, hw3, hqk, hks, _, hdk, _, _, _, _⟩
  rw [show w3 = w1 from hw3]
  have hdk' : s.data.toList.drop k = R.dropWhile (fun x => x != 10) := by rw [hdk]; exact unhide HDW
  have hkl : q < k := by
    have h1 := congrArg List.length hdk'
    have h2 := dropWhile_len (fun x => x != 10) R
    rw [List.length_drop, data_len] at h1
    omega
  have HS := hide (RAt.step (q' := k) (unhide H1) (unhide HCR) (unhide HST) (unhide H1).flt (unhide H1).blm ((unhide H1).rws.rest _) hdk' hks (few_rest (unhide H1).few (unhide H1).flt (by rw [unhide HCR]; have := dropWhile_len (fun x => x != 10) R; simp; omega)) ((unhide H1).kin.of rfl (fun x hx => hx)) (by rw [unhide HCR]; have := dropWhile_len (fun x => x != 10) R; simp; omega) (unhide H1).below)
  clear hdk hdk' hw3 HLN
  go_wp2
  exact ⟨WI_intro ⟨k, _, G, rfl, HS⟩, show s.size - k < s.size - q by omega⟩

end Go.Proofs.YtlmpdfeidjnmnaaDoor

/- The document's 'Lex': an operator. -/
namespace Go.Proofs.YtlmpdfeidjnmnaaDoor
open Go.RowKit

set_option maxRecDepth 1000000 in
set_option maxHeartbeats 40000000 in
theorem rl_oper {s : ByteArray} {w wr : World} {T st : LS} {q G : Nat} {c : UInt8} {R : List UInt8} {K : Act → World → Prop} {u2 u3 u4 u5 u6 u8 u9 u10 u11 u12 u13 u14 u15 u16 u17 u18 u19 u23 u24 u25 u26 u27 u28 u29 u30 u31 u32 u33 u34 u35 u36 u37 u38 u39 u40 u41 u42 u43 u44 u45 u46 u47 u48 u49 u50 u51 u52 u53 u54 u55 u56 u57 u58 u59 u60 u61 u62 u63 u64 u65 u66 u67 u68 u69 u70 u71 u72 u73 u74 u75 u76 u77 u78 u79 u80 u81 u82 u83 u84 u85 u86 u87 u88 u89 u90 u91 u92 u93 u94 u95 u96 u97 u98 u99 u100 u101 u102 u103 u104 u105 u106 u107 u108 u109 u110 u111 u112 u113 u114 u115 u116 u117 u118 u119 u120 u121 u122 u123 u124 u125 u126 u127 u128 u129 u130 u131 u132 u133 u134 u135 u136 u137 u138 u139 u140 u141 u142 u143 u144 u145 u146 u147 u148 u149 u150 u151 u152 u153 u154 u155 u156 u157 u158 u159 u160 u161 u162 u163 u164 u165 u166 u167 u168 u169 u170 u171 u172 u173 u174 u175 u176 u177 u178 u179 u180 u181 u182 u183 u184 u185 u186 u187 u188 u189 u190 u191 u192 u193 u194 u195 u196 u197 u198 u199 u200 u201 u202 u203 u204 u205 u206 u207 u208 u209 u210 u211 u212 u213 u214 u215 u216 u217 u218 u219 u220 u221 u222 u223 u224 u225 u226 u227 u228 : Value} (hs : s.size ≤ 100000) (hlt : q < s.size) (HCC : Hid (c = s[q])) (HRR : Hid (R = s.data.toList.drop (q + 1))) (HCR : Hid (st.rest = c :: R)) (HR : Hid (RAt w s T wr u5 u6 q st (G + 1))) (HBL : Hid (blkB (c.toNat : Int) = false)) (HO0 : Hid (opL (c :: R) ≠ [])) :
    Code.wp Tryd.prog lexBody (Exit.then (fun a' w'' => WI w s T a' w'' ∧ Wmu s a' < s.size - q) (Exit.inBlock 0 (Exit.then K (bodyPost Tryd.prog Tryd.f13 (RPost w T))))) ⟨#[.string s, undef, u2, u3, u4, u5, u6, .int .i64 (q : Int), u8, u9, u10, u11, u12, u13, u14, u15, u16, u17, u18, u19, .string s, .int .i64 (s.size : Int), .bool false, u23, u24, u25, u26, u27, u28, u29, u30, u31, u32, u33, u34, u35, u36, u37, u38, u39, u40, u41, u42, u43, u44, u45, u46, u47, u48, u49, u50, u51, u52, u53, u54, u55, u56, u57, u58, u59, u60, u61, u62, u63, u64, u65, u66, u67, u68, u69, u70, u71, u72, u73, u74, u75, u76, u77, u78, u79, u80, u81, u82, u83, u84, u85, u86, u87, u88, u89, u90, u91, u92, u93, u94, u95, u96, u97, u98, u99, u100, u101, u102, u103, u104, u105, u106, u107, u108, u109, u110, u111, u112, u113, u114, u115, u116, u117, u118, u119, u120, u121, u122, u123, u124, u125, u126, u127, u128, u129, u130, u131, u132, u133, u134, u135, u136, u137, u138, u139, u140, u141, u142, u143, u144, u145, u146, u147, u148, u149, u150, u151, u152, u153, u154, u155, u156, u157, u158, u159, u160, u161, u162, u163, u164, u165, u166, u167, u168, u169, u170, u171, u172, u173, u174, u175, u176, u177, u178, u179, u180, u181, u182, u183, u184, u185, u186, u187, u188, u189, u190, u191, u192, u193, u194, u195, u196, u197, u198, u199, u200, u201, u202, u203, u204, u205, u206, u207, u208, u209, u210, u211, u212, u213, u214, u215, u216, u217, u218, u219, u220, u221, u222, u223, u224, u225, u226, u227, u228, undef, undef, undef, undef, undef, undef, undef, undef, undef, undef, undef, undef, undef], []⟩ wr := by
  conv => arg 2; whnf
  have hlt' : (q : Int) < (s.size : Int) := by omega
  have hq0 : (0 : Int) ≤ (q : Int) := by omega
  obtain ⟨q1, hq1⟩ : ∃ y, y = q + 1 := ⟨_, rfl⟩
  rw [← hq1] at HRR
  have hwq : IntKind.i64.wrap ((q : Int) + 1) = (q1 : Int) := by rw [IntKind.wrap_i64]; omega
  have hq1s : q < q1 ∧ q1 ≤ s.size ∧ q1 ≤ q + 1 := by omega
  have htl : st.toks.length ≤ s.size := (unhide HR).few.toks
  have hwl : st.wait.length ≤ s.size := by have := (unhide HR).few.wait; omega
  have hRl : R.length = s.size - q1 := by rw [unhide HRR, List.length_drop, data_len]
  have HQ1 := hide hq1
  clear hq1
  obtain ⟨O, hO⟩ : ∃ O, O = opL (c :: R) := ⟨_, rfl⟩
  have HOP : Hid (Calls Tryd.prog 23 #[.string s, .int .i64 (q : Int)] wr fun e w' => e = .returned (.string (BA O)) ∧ Below wr.heap.size wr w') := hide (by
    have := rop_any s q wr hs (Nat.le_of_lt hlt)
    rwa [(unhide HR).rest, unhide HCR, ← hO] at this)
  have HO := hide hO
  clear hO
  go_wp2_with fail
  refine (unhide HOP).mono ?_
  rintro en w1 ⟨rfl, b1⟩
  have H1 := hide ((unhide HR).keep b1)
  clear b1 HOP HR
  go_wp2_with fail
  refine (rblank_any _ _).mono ?_
  rintro en w2 ⟨rfl, hw2⟩
  rw [show w2 = w1 from hw2]
  clear hw2
  have hbl' : blkB (s[q].toNat : Int) = false := by rw [← unhide HCC]; exact unhide HBL
  rw [hbl']
  clear hbl'
  obtain ⟨iT, hiT, hzT0, hzT1, hzT2⟩ := info_of info_rtok
  have hO0 : O ≠ [] := by rw [unhide HO]; exact unhide HO0
  have hpre := opL_pre (c :: R)
  rw [← unhide HO] at hpre
  have hol := hpre.length_le
  rw [List.length_cons] at hol
  have hol3 : O.length ≤ 3 := by rw [unhide HO]; exact opL_len _
  have hop : 0 < O.length := List.length_pos_iff.2 hO0
  have hcs : c ≠ 10 ∧ c ≠ 92 ∧ c ≠ 35 := by
    obtain ⟨t, ht⟩ := hpre
    cases O with
    | nil => exact absurd rfl hO0
    | cons x O' =>
      injection ht with e1 e2
      have hm : ∀ o ∈ opsT, ∀ d s, o = d :: s → d ≠ 10 ∧ d ≠ 92 ∧ d ≠ 35 := by
        intro o ho
        unfold opsT at ho
        simp at ho
        rcases ho with h | h | h | h | h | h | h | h | h | h | h | h | h | h | h | h <;> subst h <;> (intro c r e; injection e with e1 e2; subst e1; decide)
      rcases opL_cases (c :: R) with h0 | ⟨h1, _⟩
      · rw [← unhide HO] at h0; cases h0
      · rw [← unhide HO] at h1
        rw [← e1]
        exact hm _ h1 x O' rfl
  have e0 : (BA O).toList.isEmpty = false := by
    rw [ByteArray.toList_eq, BA_list]
    cases O with
    | nil => exact absurd rfl hO0
    | cons x O => rfl
  have HN92 := hide hcs.2.1
  have HN35 := hide hcs.2.2
  have v92 : ((s[q].toNat : Int) == 92) = false := beq_eq_false_iff_ne.2 (fun e => unhide HN92 (by rw [unhide HCC]; exact UInt8.toNat_inj.1 (show s[q].toNat = 92 by omega)))
  have hnl : ¬ (c = 92 ∧ R.head? = some 10) := fun h => unhide HN92 h.1
  have HNLN := hide hnl
  clear hnl
  have v35 : ((s[q].toNat : Int) == 35) = false := beq_eq_false_iff_ne.2 (fun e => unhide HN35 (by rw [unhide HCC]; exact UInt8.toNat_inj.1 (show s[q].toNat = 35 by omega)))
  have HST := hide (stepR_token (n := s.size) (unhide HCR) (unhide HBL) (unhide HNLN) (unhide HN35))
  have HTF := hide (tokenL_few (unhide H1).few (unhide H1).flt (unhide HCR) (unhide HBL))
  have HTK := hide ((unhide H1).kin.token (n := s.size) (unhide HCR) (unhide HBL))
  have HPN : Hid (s.size - (R.length + 1) = q) := hide (by omega)
  have HBw := hide (unhide H1).below
  have htok : tokenL s.size st = ({ st with rest := (c :: R).drop O.length } : LS).add 2 O (q : Int) := by
    unfold tokenL
    rw [unhide HCR]
    simp only
    rw [if_neg hcs.1, ← unhide HO, if_neg hO0, unhide HPN]
  obtain ⟨k, hk⟩ : ∃ y, y = q + O.length := ⟨_, rfl⟩
  have hwk : IntKind.i64.wrap ((q : Int) + (O.length : Int)) = (k : Int) := by rw [IntKind.wrap_i64]; omega
  have hks : k ≤ s.size ∧ q < k := by omega
  have hdk : s.data.toList.drop k = (c :: R).drop O.length := by rw [hk, ← List.drop_drop, (unhide H1).rest, unhide HCR]
  have HTO := hide htok
  have HDK := hide hdk
  have HRW := hide ((unhide H1).rws.rest ((c :: R).drop O.length))
  clear hpre hol hop htok hk hdk hO0 hcs
  go_wp2_with (first
    | (at_builtin; refine wpList_append_own _ rfl (.tmp 65) (.tmp 69) 30 rfl w.heap.size 65 iT _ 5 56 und_rtok hiT hzT0 hzT1 hzT2 rfl (by decide) _ _ _ rfl (World.ownsRow.alloc (unhide HRW).out _) ⟨w1.heap.size, 0, none⟩ 1 1 [.int .i64 2, .string (BA O), .int .i64 (q : Int), .string ⟨#[]⟩, .bool false] rfl rfl five_cells five_val ?c3 ?c4 ?c5 ?_)
    | go_in)
  case c3 => unfold maxLen; omega
  case c4 => omega
  case c5 => have := (unhide HBw).size; simp; omega
  intro v' w3 hownN hgrowN _
  have HRN := hide (Rws.push (kind := 2) (pos := (q : Int)) (unhide HRW) hownN hgrowN)
  have HBn : Hid (Below w.heap.size w w3) := hide (((unhide HBw).alloc (unhide HBw).size _).grown hgrowN (by have := (unhide HBw).size; simp; omega) (fun j hj => (unhide HRW).lt.1 j hj))
  clear hownN hgrowN
  have HS := hide (RAt.step (st' := ({ st with rest := (c :: R).drop O.length } : LS).add 2 O (q : Int)) (q' := k) (unhide H1) (unhide HCR) (by rw [unhide HST, unhide HTO]) (unhide H1).flt (unhide H1).blm (unhide HRN) (unhide HDK) hks.1 (by rw [← unhide HTO]; exact (unhide HTF).1) (by rw [← unhide HTO]; exact unhide HTK) (by
    have := (unhide HTF).2 (by rw [unhide HTO]; exact (unhide H1).flt)
    rwa [unhide HTO] at this) (unhide HBn))
  clear HRN
  go_wp2
  exact ⟨WI_intro ⟨k, _, G, rfl, HS⟩, show s.size - k < s.size - q by omega⟩

end Go.Proofs.YtlmpdfeidjnmnaaDoor

/- The document's 'Lex': an awaited text. -/
namespace Go.Proofs.YtlmpdfeidjnmnaaDoor
open Go.RowKit

set_option maxRecDepth 1000000 in
set_option maxHeartbeats 40000000 in
theorem nl_ok {s : ByteArray} {w wr : World} {st0 stk : LS} {pos : Int} {q k tb : Nat} {Q : Exit → Act → World → Prop} {u2 u3 u4 u5 u6 u8 u9 u12 u13 u14 u15 u16 u17 u18 u19 u23 u24 u25 u26 u27 u28 u29 u30 u31 u32 u33 u34 u35 u36 u37 u38 u39 u40 u41 u42 u43 u44 u45 u46 u47 u48 u49 u50 u51 u52 u53 u54 u55 u56 u57 u58 u59 u60 u61 u62 u63 u64 u65 u66 u67 u68 u69 u70 u71 u72 u73 u74 u75 u76 u77 u78 u79 u80 u81 u82 u83 u84 u85 u86 u87 u88 u89 u90 u91 u92 u93 u94 u95 u96 u97 u98 u99 u100 u101 u102 u103 u104 u105 u106 u107 u108 u109 u110 u111 u112 u113 u114 u115 u116 u117 u118 u119 u120 u121 u122 u123 u124 u125 u126 u127 u128 u129 u130 u131 u132 u133 u134 u135 u136 u137 u138 u139 u140 u141 u142 u143 u144 u145 u146 u147 u148 u149 u150 u151 u152 u153 u154 u155 u156 u157 u158 u159 u160 u161 u162 u163 u164 u165 u166 u167 u168 u169 u170 u171 u172 u173 u174 u175 u176 u177 u178 u179 u180 u181 u182 u183 u184 u185 u186 u187 u188 u189 u190 u191 u192 u193 u194 u195 u196 u197 u198 u199 u200 u201 u202 u203 u204 u205 u206 u207 u208 u209 u210 u211 u212 u213 u214 u215 u216 u217 u218 u219 u220 u221 u222 u223 u224 u225 u226 u227 u228 : Value} (hs : s.size ≤ 100000) (hk : k < st0.wait.length) (HN : Hid (NAt w s st0 pos u5 u6 q k tb stk wr)) (HK : Hid (KInv st0)) (HF : Hid (Few s.size st0)) (HTK : Hid (∀ sk x, sk = stk → st0.wait[k]? = some x → ∃ b r, takeL (sk.rest.length + 1) x.tabs x.en sk.rest [] = some (b, r))) :
    Code.wp Tryd.prog nlBody (Exit.then (fun a' w'' => WF s (NRel w s st0 pos) a' w'' ∧ Nmu st0 a' < st0.wait.length - k) Q) ⟨#[.string s, undef, u2, u3, u4, u5, u6, .int .i64 (q : Int), u8, u9, .pointer (some ⟨tb, 0, none⟩), .int .i64 (k : Int), u12, u13, u14, u15, u16, u17, u18, u19, .string s, .int .i64 (s.size : Int), .bool false, u23, u24, u25, u26, u27, u28, u29, u30, u31, u32, u33, u34, u35, u36, u37, u38, u39, u40, u41, u42, u43, u44, u45, u46, u47, u48, u49, u50, u51, u52, u53, u54, u55, u56, u57, u58, u59, u60, u61, u62, u63, u64, u65, u66, u67, u68, u69, u70, u71, u72, u73, u74, u75, u76, u77, u78, u79, u80, u81, u82, u83, u84, u85, u86, u87, u88, u89, u90, u91, u92, u93, u94, u95, u96, u97, u98, u99, u100, u101, u102, u103, u104, u105, u106, u107, u108, u109, u110, u111, u112, u113, u114, u115, u116, u117, u118, u119, u120, u121, u122, u123, u124, u125, u126, u127, u128, u129, u130, u131, u132, u133, u134, u135, u136, u137, u138, u139, u140, u141, u142, u143, u144, u145, u146, u147, u148, u149, u150, u151, u152, u153, u154, u155, u156, u157, u158, u159, u160, u161, u162, u163, u164, u165, u166, u167, u168, u169, u170, u171, u172, u173, u174, u175, u176, u177, u178, u179, u180, u181, u182, u183, u184, u185, u186, u187, u188, u189, u190, u191, u192, u193, u194, u195, u196, u197, u198, u199, u200, u201, u202, u203, u204, u205, u206, u207, u208, u209, u210, u211, u212, u213, u214, u215, u216, u217, u218, u219, u220, u221, u222, u223, u224, u225, u226, u227, u228, undef, undef, undef, undef, undef, undef, undef, undef, undef, undef, undef, undef, undef], []⟩ wr := by
  conv => arg 2; whnf
  obtain ⟨x, hx⟩ : ∃ x, st0.wait[k]? = some x := ⟨_, List.getElem?_eq_getElem hk⟩
  have hwt : stk.wait = st0.wait := by rw [(unhide HN).eq, foldl_wait]
  have hkt : kts stk.toks = kts st0.toks := by rw [(unhide HN).eq, foldl_kts]
  have hrw := (unhide HN).rws
  obtain ⟨n6, hn6⟩ : ∃ n, n = stk.wait.length := ⟨_, rfl⟩
  have hwts := hrw.wts
  rw [← hn6] at hwts
  obtain ⟨ad6, cap6, he6, hsh6⟩ := wt_shape hwts hn6
  obtain ⟨g6, hg6, hb6, hl6, c60, c61⟩ := hsh6 k x (by rw [hwt]; exact hx)
  subst hg6
  subst he6
  obtain ⟨n5, hn5⟩ : ∃ n, n = stk.toks.length := ⟨_, rfl⟩
  have hout := hrw.out
  rw [← hn5] at hout
  obtain ⟨ad5, cap5, he5, hsh5⟩ := out_shape hout hn5
  obtain ⟨ku, hku, htb⟩ := (unhide HK).tabs x (List.mem_of_getElem? hx)
  rw [← hkt] at hku
  unfold kts at hku
  rw [List.getElem?_map] at hku
  obtain ⟨t, ht, hkut⟩ := Option.map_eq_some_iff.1 hku
  obtain ⟨g5, hg5, hb5, hl5, hfz, c5⟩ := hsh5 x.tok t ht
  subst hg5
  subst he5
  have c51 : wr.cell? ⟨g5, x.tok * 5 + 1, none⟩ = some (.string t.text) := c5 1 _ rfl (by decide)
  have c52 : wr.cell? ⟨g5, x.tok * 5 + 2, none⟩ = some (.int .i64 t.pos) := c5 2 _ rfl (by decide)
  have c53 : wr.cell? ⟨g5, x.tok * 5 + 3, none⟩ = some (.string t.body) := c5 3 _ rfl (by decide)
  have hteq : (t.text.toList == [60, 60, 45]) = x.tabs := by
    rw [show t.text = ku.2 by rw [← hkut]]
    rcases htb with ⟨h1, h2⟩ | ⟨h1, h2⟩
    · rw [h1, h2, ByteArray.toList_eq, BA_list]; decide
    · rw [h1, h2, ByteArray.toList_eq, BA_list]; decide
  have htl := (List.getElem?_eq_some_iff.1 ht).1
  rw [← hn5] at htl
  have hk6 : (k : Int) < (n6 : Int) := by rw [hn6, hwt]; omega
  have hk0 : (0 : Int) ≤ (k : Int) := by omega
  have ht5 : (x.tok : Int) < (n5 : Int) := by omega
  have ht0 : (0 : Int) ≤ (x.tok : Int) := by omega
  have hfz3 := hfz (x.tok * 5 + 3)
  obtain ⟨k1, hk1⟩ : ∃ y, y = k + 1 := ⟨_, rfl⟩
  have hkb : k < 100001 := by have h1 := (unhide HF).wait; have h2 := (unhide HF).toks; omega
  have hwk : IntKind.i64.wrap ((k : Int) + 1) = (k1 : Int) := by rw [IntKind.wrap_i64]; omega
  have htake : takeL (s.size - q + 1) x.tabs x.en (s.data.toList.drop q) [] = takeL (stk.rest.length + 1) x.tabs x.en stk.rest [] := by
    rw [← (unhide HN).rest, List.length_drop, data_len]
  have HNX := hide ((unhide HN).next hx)
  have HX := hide hx
  have HRW := hide hrw
  have HSH := hide (And.intro hout (And.intro hn5 (And.intro hwts hn6)))
  have HT := hide ht
  have HQL := hide (unhide HN).qle
  have HFL := hide (unhide HN).flt
  clear hx hwt hkt hrw hwts hsh6 hout hsh5 hku htb hkut c5 hfz hn5 hn6 ht
  obtain ⟨b, r, htk⟩ := unhide HTK stk x rfl (unhide HX)
  obtain ⟨m, hm⟩ : ∃ m, m = s.size - r.length := ⟨_, rfl⟩
  have hsd := suf_drop (unhide HQL) (show r <:+ s.data.toList.drop q by rw [(unhide HN).rest]; exact takeL_suf _ _ _ _ _ _ _ htk)
  rw [← hm] at hsd
  have hms : m ≤ s.size := by omega
  have HSD := hide hsd
  have HCALL : Hid (∀ wx, Calls Tryd.prog 26 #[.string s, .int .i64 (q : Int), .string (BA x.en), .bool x.tabs] wx fun e w' => e = .returned (.tuple #[.string (BA b), .int .i64 (m : Int), .bool true]) ∧ w' = wx) := hide (fun wx => by rw [hm]; exact body_val s q x.en x.tabs wx hs (unhide HQL) b r (htake.trans htk))
  have HTT := hide htk
  clear htk htake hm hsd
  go_wp2_with fail
  go_big_quiet ((go_at_call 26; exact Calls.quiet_of_same (unhide HCALL _)))
  go_wp2_with fail
  exact ⟨WF_intro (Rel := NRel w s st0 pos) ⟨m, k + 1, tb, takeUpL stk x, rfl, rfl, rfl, hide (NAt.up (unhide HN) (unhide HX) (unhide HTT) (unhide HSH).2.1 htl (unhide HSD).1 hms hb5)⟩, show st0.wait.length - (k + 1) < st0.wait.length - k by omega⟩

end Go.Proofs.YtlmpdfeidjnmnaaDoor

/- The document's 'Lex': an awaited text that is not there. -/
namespace Go.Proofs.YtlmpdfeidjnmnaaDoor
open Go.RowKit

set_option maxRecDepth 1000000 in
set_option maxHeartbeats 40000000 in
theorem nl_bad {s : ByteArray} {w wr : World} {T st0 stk : LS} {pos : Int} {q k tb : Nat} {Q : Exit → Act → World → Prop} {u2 u3 u4 u5 u6 u8 u9 u12 u13 u14 u15 u16 u17 u18 u19 u23 u24 u25 u26 u27 u28 u29 u30 u31 u32 u33 u34 u35 u36 u37 u38 u39 u40 u41 u42 u43 u44 u45 u46 u47 u48 u49 u50 u51 u52 u53 u54 u55 u56 u57 u58 u59 u60 u61 u62 u63 u64 u65 u66 u67 u68 u69 u70 u71 u72 u73 u74 u75 u76 u77 u78 u79 u80 u81 u82 u83 u84 u85 u86 u87 u88 u89 u90 u91 u92 u93 u94 u95 u96 u97 u98 u99 u100 u101 u102 u103 u104 u105 u106 u107 u108 u109 u110 u111 u112 u113 u114 u115 u116 u117 u118 u119 u120 u121 u122 u123 u124 u125 u126 u127 u128 u129 u130 u131 u132 u133 u134 u135 u136 u137 u138 u139 u140 u141 u142 u143 u144 u145 u146 u147 u148 u149 u150 u151 u152 u153 u154 u155 u156 u157 u158 u159 u160 u161 u162 u163 u164 u165 u166 u167 u168 u169 u170 u171 u172 u173 u174 u175 u176 u177 u178 u179 u180 u181 u182 u183 u184 u185 u186 u187 u188 u189 u190 u191 u192 u193 u194 u195 u196 u197 u198 u199 u200 u201 u202 u203 u204 u205 u206 u207 u208 u209 u210 u211 u212 u213 u214 u215 u216 u217 u218 u219 u220 u221 u222 u223 u224 u225 u226 u227 u228 : Value} (hs : s.size ≤ 100000) (hk : k < st0.wait.length) (HN : Hid (NAt w s st0 pos u5 u6 q k tb stk wr)) (HK : Hid (KInv st0)) (HF : Hid (Few s.size st0)) (HTK : Hid (∀ sk x, sk = stk → st0.wait[k]? = some x → takeL (sk.rest.length + 1) x.tabs x.en sk.rest [] = none)) (HTB : Hid ((st0.wait.foldl takeUpL st0).flt ≠ 0 → T = st0.wait.foldl takeUpL st0)) (hret : ∀ a' w'', WRet w s T a' w'' → Q .ret a' w'') :
    Code.wp Tryd.prog nlBody (Exit.then (fun a' w'' => WF s (NRel w s st0 pos) a' w'' ∧ Nmu st0 a' < st0.wait.length - k) Q) ⟨#[.string s, undef, u2, u3, u4, u5, u6, .int .i64 (q : Int), u8, u9, .pointer (some ⟨tb, 0, none⟩), .int .i64 (k : Int), u12, u13, u14, u15, u16, u17, u18, u19, .string s, .int .i64 (s.size : Int), .bool false, u23, u24, u25, u26, u27, u28, u29, u30, u31, u32, u33, u34, u35, u36, u37, u38, u39, u40, u41, u42, u43, u44, u45, u46, u47, u48, u49, u50, u51, u52, u53, u54, u55, u56, u57, u58, u59, u60, u61, u62, u63, u64, u65, u66, u67, u68, u69, u70, u71, u72, u73, u74, u75, u76, u77, u78, u79, u80, u81, u82, u83, u84, u85, u86, u87, u88, u89, u90, u91, u92, u93, u94, u95, u96, u97, u98, u99, u100, u101, u102, u103, u104, u105, u106, u107, u108, u109, u110, u111, u112, u113, u114, u115, u116, u117, u118, u119, u120, u121, u122, u123, u124, u125, u126, u127, u128, u129, u130, u131, u132, u133, u134, u135, u136, u137, u138, u139, u140, u141, u142, u143, u144, u145, u146, u147, u148, u149, u150, u151, u152, u153, u154, u155, u156, u157, u158, u159, u160, u161, u162, u163, u164, u165, u166, u167, u168, u169, u170, u171, u172, u173, u174, u175, u176, u177, u178, u179, u180, u181, u182, u183, u184, u185, u186, u187, u188, u189, u190, u191, u192, u193, u194, u195, u196, u197, u198, u199, u200, u201, u202, u203, u204, u205, u206, u207, u208, u209, u210, u211, u212, u213, u214, u215, u216, u217, u218, u219, u220, u221, u222, u223, u224, u225, u226, u227, u228, undef, undef, undef, undef, undef, undef, undef, undef, undef, undef, undef, undef, undef], []⟩ wr := by
  conv => arg 2; whnf
  obtain ⟨x, hx⟩ : ∃ x, st0.wait[k]? = some x := ⟨_, List.getElem?_eq_getElem hk⟩
  have hwt : stk.wait = st0.wait := by rw [(unhide HN).eq, foldl_wait]
  have hkt : kts stk.toks = kts st0.toks := by rw [(unhide HN).eq, foldl_kts]
  have hrw := (unhide HN).rws
  obtain ⟨n6, hn6⟩ : ∃ n, n = stk.wait.length := ⟨_, rfl⟩
  have hwts := hrw.wts
  rw [← hn6] at hwts
  obtain ⟨ad6, cap6, he6, hsh6⟩ := wt_shape hwts hn6
  obtain ⟨g6, hg6, hb6, hl6, c60, c61⟩ := hsh6 k x (by rw [hwt]; exact hx)
  subst hg6
  subst he6
  obtain ⟨n5, hn5⟩ : ∃ n, n = stk.toks.length := ⟨_, rfl⟩
  have hout := hrw.out
  rw [← hn5] at hout
  obtain ⟨ad5, cap5, he5, hsh5⟩ := out_shape hout hn5
  obtain ⟨ku, hku, htb⟩ := (unhide HK).tabs x (List.mem_of_getElem? hx)
  rw [← hkt] at hku
  unfold kts at hku
  rw [List.getElem?_map] at hku
  obtain ⟨t, ht, hkut⟩ := Option.map_eq_some_iff.1 hku
  obtain ⟨g5, hg5, hb5, hl5, hfz, c5⟩ := hsh5 x.tok t ht
  subst hg5
  subst he5
  have c51 : wr.cell? ⟨g5, x.tok * 5 + 1, none⟩ = some (.string t.text) := c5 1 _ rfl (by decide)
  have c52 : wr.cell? ⟨g5, x.tok * 5 + 2, none⟩ = some (.int .i64 t.pos) := c5 2 _ rfl (by decide)
  have c53 : wr.cell? ⟨g5, x.tok * 5 + 3, none⟩ = some (.string t.body) := c5 3 _ rfl (by decide)
  have hteq : (t.text.toList == [60, 60, 45]) = x.tabs := by
    rw [show t.text = ku.2 by rw [← hkut]]
    rcases htb with ⟨h1, h2⟩ | ⟨h1, h2⟩
    · rw [h1, h2, ByteArray.toList_eq, BA_list]; decide
    · rw [h1, h2, ByteArray.toList_eq, BA_list]; decide
  have htl := (List.getElem?_eq_some_iff.1 ht).1
  rw [← hn5] at htl
  have hk6 : (k : Int) < (n6 : Int) := by rw [hn6, hwt]; omega
  have hk0 : (0 : Int) ≤ (k : Int) := by omega
  have ht5 : (x.tok : Int) < (n5 : Int) := by omega
  have ht0 : (0 : Int) ≤ (x.tok : Int) := by omega
  have hfz3 := hfz (x.tok * 5 + 3)
  obtain ⟨k1, hk1⟩ : ∃ y, y = k + 1 := ⟨_, rfl⟩
  have hkb : k < 100001 := by have h1 := (unhide HF).wait; have h2 := (unhide HF).toks; omega
  have hwk : IntKind.i64.wrap ((k : Int) + 1) = (k1 : Int) := by rw [IntKind.wrap_i64]; omega
  have htake : takeL (s.size - q + 1) x.tabs x.en (s.data.toList.drop q) [] = takeL (stk.rest.length + 1) x.tabs x.en stk.rest [] := by
    rw [← (unhide HN).rest, List.length_drop, data_len]
  have HNX := hide ((unhide HN).next hx)
  have HX := hide hx
  have HRW := hide hrw
  have HSH := hide (And.intro hout (And.intro hn5 (And.intro hwts hn6)))
  have HT := hide ht
  have HQL := hide (unhide HN).qle
  have HFL := hide (unhide HN).flt
  clear hx hwt hkt hrw hwts hsh6 hout hsh5 hku htb hkut c5 hfz hn5 hn6 ht
  have htk := unhide HTK stk x rfl (unhide HX)
  have HCALL : Hid (∀ wx, Calls Tryd.prog 26 #[.string s, .int .i64 (q : Int), .string (BA x.en), .bool x.tabs] wx fun e w' => e = .returned (.tuple #[.string ⟨#[]⟩, .int .i64 (s.size : Int), .bool false]) ∧ w' = wx) := hide (fun wx => body_none s q x.en x.tabs wx hs (unhide HQL) (htake.trans htk))
  have hup : takeUpL stk x = { stk with rest := [], flt := 12, blm := t.pos } := by
    unfold takeUpL
    rw [if_pos (unhide HFL), htk]
    simp only
    unfold LS.fail LS.posOf
    rw [if_pos (show ({ stk with rest := [] } : LS).flt = 0 from unhide HFL), unhide HT]
    rfl
  have hT : T = { stk with rest := [], flt := 12, blm := t.pos } := by
    have h1 := (unhide HN).all (unhide HX) (by rw [hup]; show (12 : Int) ≠ 0; decide)
    rw [hup] at h1
    rw [unhide HTB (by rw [h1]; show (12 : Int) ≠ 0; decide), h1]
  have HTT := hide hT
  have HNB := hide (unhide HN).below
  clear htk htake hup hT
  go_wp2_with fail
  go_big_quiet ((go_at_call 26; exact Calls.quiet_of_same (unhide HCALL _)))
  go_wp2_with fail
  go_big_quiet (fail)
  go_wp2_with fail
  have hend : endS T = { stk with rest := [], flt := 12, blm := t.pos } := by
    rw [endS_bad (by rw [unhide HTT]; show (12 : Int) ≠ 0; decide)]
    exact unhide HTT
  refine WRet_intro ⟨.slice (some ⟨g5, 0, none⟩) n5 cap5, ?_, ?_, ?_⟩
  · rw [hend]
  · exact ((unhide HNB).trans ((below_drew wr _).mono (unhide HNB).size)).trans ((below_drew _ _).mono (unhide HNB).size)
  · rw [hend]
    exact trow_any (((unhide HRW).keep (below_drew wr _)).keep (below_drew _ _)).out rfl

end Go.Proofs.YtlmpdfeidjnmnaaDoor

/- The document's 'Lex': the end of the loop over the awaited texts. -/
namespace Go.Proofs.YtlmpdfeidjnmnaaDoor
open Go.RowKit

set_option maxRecDepth 1000000 in
set_option maxHeartbeats 40000000 in
theorem nl_exit {s : ByteArray} {w wr : World} {st0 stk : LS} {pos : Int} {q k tb : Nat} {Q : Exit → Act → World → Prop} {u2 u3 u4 u5 u6 u8 u9 u12 u13 u14 u15 u16 u17 u18 u19 u23 u24 u25 u26 u27 u28 u29 u30 u31 u32 u33 u34 u35 u36 u37 u38 u39 u40 u41 u42 u43 u44 u45 u46 u47 u48 u49 u50 u51 u52 u53 u54 u55 u56 u57 u58 u59 u60 u61 u62 u63 u64 u65 u66 u67 u68 u69 u70 u71 u72 u73 u74 u75 u76 u77 u78 u79 u80 u81 u82 u83 u84 u85 u86 u87 u88 u89 u90 u91 u92 u93 u94 u95 u96 u97 u98 u99 u100 u101 u102 u103 u104 u105 u106 u107 u108 u109 u110 u111 u112 u113 u114 u115 u116 u117 u118 u119 u120 u121 u122 u123 u124 u125 u126 u127 u128 u129 u130 u131 u132 u133 u134 u135 u136 u137 u138 u139 u140 u141 u142 u143 u144 u145 u146 u147 u148 u149 u150 u151 u152 u153 u154 u155 u156 u157 u158 u159 u160 u161 u162 u163 u164 u165 u166 u167 u168 u169 u170 u171 u172 u173 u174 u175 u176 u177 u178 u179 u180 u181 u182 u183 u184 u185 u186 u187 u188 u189 u190 u191 u192 u193 u194 u195 u196 u197 u198 u199 u200 u201 u202 u203 u204 u205 u206 u207 u208 u209 u210 u211 u212 u213 u214 u215 u216 u217 u218 u219 u220 u221 u222 u223 u224 u225 u226 u227 u228 : Value} (hk : ¬ k < st0.wait.length) (HN : Hid (NAt w s st0 pos u5 u6 q k tb stk wr)) (hexit : ∀ a' w'', WF s (NX w s st0 pos) a' w'' → Q (.exit 2) a' w'') :
    Code.wp Tryd.prog nlBody (Exit.then (fun a' w'' => WF s (NRel w s st0 pos) a' w'' ∧ Nmu st0 a' < st0.wait.length - k) Q) ⟨#[.string s, undef, u2, u3, u4, u5, u6, .int .i64 (q : Int), u8, u9, .pointer (some ⟨tb, 0, none⟩), .int .i64 (k : Int), u12, u13, u14, u15, u16, u17, u18, u19, .string s, .int .i64 (s.size : Int), .bool false, u23, u24, u25, u26, u27, u28, u29, u30, u31, u32, u33, u34, u35, u36, u37, u38, u39, u40, u41, u42, u43, u44, u45, u46, u47, u48, u49, u50, u51, u52, u53, u54, u55, u56, u57, u58, u59, u60, u61, u62, u63, u64, u65, u66, u67, u68, u69, u70, u71, u72, u73, u74, u75, u76, u77, u78, u79, u80, u81, u82, u83, u84, u85, u86, u87, u88, u89, u90, u91, u92, u93, u94, u95, u96, u97, u98, u99, u100, u101, u102, u103, u104, u105, u106, u107, u108, u109, u110, u111, u112, u113, u114, u115, u116, u117, u118, u119, u120, u121, u122, u123, u124, u125, u126, u127, u128, u129, u130, u131, u132, u133, u134, u135, u136, u137, u138, u139, u140, u141, u142, u143, u144, u145, u146, u147, u148, u149, u150, u151, u152, u153, u154, u155, u156, u157, u158, u159, u160, u161, u162, u163, u164, u165, u166, u167, u168, u169, u170, u171, u172, u173, u174, u175, u176, u177, u178, u179, u180, u181, u182, u183, u184, u185, u186, u187, u188, u189, u190, u191, u192, u193, u194, u195, u196, u197, u198, u199, u200, u201, u202, u203, u204, u205, u206, u207, u208, u209, u210, u211, u212, u213, u214, u215, u216, u217, u218, u219, u220, u221, u222, u223, u224, u225, u226, u227, u228, undef, undef, undef, undef, undef, undef, undef, undef, undef, undef, undef, undef, undef], []⟩ wr := by
  conv => arg 2; whnf
  have hwt : stk.wait = st0.wait := by rw [(unhide HN).eq, foldl_wait]
  have hrw := (unhide HN).rws
  obtain ⟨n6, hn6⟩ : ∃ n, n = stk.wait.length := ⟨_, rfl⟩
  have hwts := hrw.wts
  rw [← hn6] at hwts
  obtain ⟨ad6, cap6, he6, hsh6⟩ := wt_shape hwts hn6
  subst he6
  have hk6 : ¬ (k : Int) < (n6 : Int) := by rw [hn6, hwt]; omega
  have hke : k = st0.wait.length := by have := (unhide HN).le; omega
  subst hke
  clear hwt hrw hn6 hwts hsh6
  go_wp2_with fail
  exact WF_intro (Rel := NX w s st0 pos) ⟨q, tb, stk, rfl, rfl, HN⟩

end Go.Proofs.YtlmpdfeidjnmnaaDoor

/- The document's 'Lex': the loop over the awaited texts. -/
namespace Go.Proofs.YtlmpdfeidjnmnaaDoor
open Go.RowKit

set_option maxRecDepth 1000000 in
set_option maxHeartbeats 4000000 in
theorem nl_loop {s : ByteArray} {w wr : World} {T st0 stk : LS} {pos : Int} {q tb : Nat} {Q : Exit → Act → World → Prop} {u2 u3 u4 u5 u6 u8 u9 u12 u13 u14 u15 u16 u17 u18 u19 u23 u24 u25 u26 u27 u28 u29 u30 u31 u32 u33 u34 u35 u36 u37 u38 u39 u40 u41 u42 u43 u44 u45 u46 u47 u48 u49 u50 u51 u52 u53 u54 u55 u56 u57 u58 u59 u60 u61 u62 u63 u64 u65 u66 u67 u68 u69 u70 u71 u72 u73 u74 u75 u76 u77 u78 u79 u80 u81 u82 u83 u84 u85 u86 u87 u88 u89 u90 u91 u92 u93 u94 u95 u96 u97 u98 u99 u100 u101 u102 u103 u104 u105 u106 u107 u108 u109 u110 u111 u112 u113 u114 u115 u116 u117 u118 u119 u120 u121 u122 u123 u124 u125 u126 u127 u128 u129 u130 u131 u132 u133 u134 u135 u136 u137 u138 u139 u140 u141 u142 u143 u144 u145 u146 u147 u148 u149 u150 u151 u152 u153 u154 u155 u156 u157 u158 u159 u160 u161 u162 u163 u164 u165 u166 u167 u168 u169 u170 u171 u172 u173 u174 u175 u176 u177 u178 u179 u180 u181 u182 u183 u184 u185 u186 u187 u188 u189 u190 u191 u192 u193 u194 u195 u196 u197 u198 u199 u200 u201 u202 u203 u204 u205 u206 u207 u208 u209 u210 u211 u212 u213 u214 u215 u216 u217 u218 u219 u220 u221 u222 u223 u224 u225 u226 u227 u228 : Value} (hs : s.size ≤ 100000) (HN : Hid (NAt w s st0 pos u5 u6 q 0 tb stk wr)) (HK : Hid (KInv st0)) (HF : Hid (Few s.size st0)) (HTB : Hid ((st0.wait.foldl takeUpL st0).flt ≠ 0 → T = st0.wait.foldl takeUpL st0)) (hret : ∀ a' w'', WRet w s T a' w'' → Q .ret a' w'') (hexit : ∀ a' w'', WF s (NX w s st0 pos) a' w'' → Q (.exit 2) a' w'') :
    Code.wp Tryd.prog (Code.loop nlBody) Q ⟨#[.string s, undef, u2, u3, u4, u5, u6, .int .i64 (q : Int), u8, u9, .pointer (some ⟨tb, 0, none⟩), .int .i64 0, u12, u13, u14, u15, u16, u17, u18, u19, .string s, .int .i64 (s.size : Int), .bool false, u23, u24, u25, u26, u27, u28, u29, u30, u31, u32, u33, u34, u35, u36, u37, u38, u39, u40, u41, u42, u43, u44, u45, u46, u47, u48, u49, u50, u51, u52, u53, u54, u55, u56, u57, u58, u59, u60, u61, u62, u63, u64, u65, u66, u67, u68, u69, u70, u71, u72, u73, u74, u75, u76, u77, u78, u79, u80, u81, u82, u83, u84, u85, u86, u87, u88, u89, u90, u91, u92, u93, u94, u95, u96, u97, u98, u99, u100, u101, u102, u103, u104, u105, u106, u107, u108, u109, u110, u111, u112, u113, u114, u115, u116, u117, u118, u119, u120, u121, u122, u123, u124, u125, u126, u127, u128, u129, u130, u131, u132, u133, u134, u135, u136, u137, u138, u139, u140, u141, u142, u143, u144, u145, u146, u147, u148, u149, u150, u151, u152, u153, u154, u155, u156, u157, u158, u159, u160, u161, u162, u163, u164, u165, u166, u167, u168, u169, u170, u171, u172, u173, u174, u175, u176, u177, u178, u179, u180, u181, u182, u183, u184, u185, u186, u187, u188, u189, u190, u191, u192, u193, u194, u195, u196, u197, u198, u199, u200, u201, u202, u203, u204, u205, u206, u207, u208, u209, u210, u211, u212, u213, u214, u215, u216, u217, u218, u219, u220, u221, u222, u223, u224, u225, u226, u227, u228, undef, undef, undef, undef, undef, undef, undef, undef, undef, undef, undef, undef, undef], []⟩ wr := by
  refine wp_loop (WF s (NRel w s st0 pos)) (fun a _ => Nmu st0 a) (WF_intro (Rel := NRel w s st0 pos) ⟨q, 0, tb, stk, rfl, rfl, rfl, HN⟩) ?_
  clear HN
  intro a wr hI
  obtain ⟨M, hM⟩ : ∃ M, M = Nmu st0 a := ⟨_, rfl⟩
  show Code.wp Tryd.prog nlBody (Exit.then (fun a' w'' => WF s (NRel w s st0 pos) a' w'' ∧ Nmu st0 a' < Nmu st0 a) Q) a wr
  rw [← hM]
  obtain ⟨f, ⟨q, k, tb, stk, h7, h10, h11, HN⟩, rfl⟩ := hI
  have hM' : M = st0.wait.length - k := by
    rw [hM]
    show st0.wait.length - (intOf (f 11)).toNat = _
    rw [h11]
    rfl
  clear hM
  subst hM'
  rw [h7, h10, h11]
  by_cases hk : k < st0.wait.length
  · obtain ⟨x, hx⟩ : ∃ x, st0.wait[k]? = some x := ⟨_, List.getElem?_eq_getElem hk⟩
    cases htk : takeL (stk.rest.length + 1) x.tabs x.en stk.rest [] with
    | none =>
      refine nl_bad hs hk HN HK HF (hide fun sk y h1 h2 => ?_) HTB hret
      subst h1
      rw [hx] at h2
      injection h2 with h2
      rw [← h2]
      exact htk
    | some br =>
      refine nl_ok hs hk HN HK HF (hide fun sk y h1 h2 => ?_)
      subst h1
      rw [hx] at h2
      injection h2 with h2
      rw [← h2]
      exact ⟨br.1, br.2, htk⟩
  · exact nl_exit hk HN hexit

end Go.Proofs.YtlmpdfeidjnmnaaDoor

/- The document's 'Lex': a newline. -/
namespace Go.Proofs.YtlmpdfeidjnmnaaDoor
open Go.RowKit

theorem foldl_blm (ws : List Wt) : ∀ st : LS, (ws.foldl takeUpL st).flt = 0 → (ws.foldl takeUpL st).blm = st.blm := by
  induction ws with
  | nil => intro st _; rfl
  | cons x ws ih =>
    intro st h
    rw [List.foldl_cons] at h ⊢
    rw [ih _ h]
    by_cases hf : (takeUpL st x).flt = 0
    · unfold takeUpL at hf ⊢
      by_cases h0 : st.flt = 0
      · rw [if_pos h0] at hf ⊢
        cases htk : takeL (st.rest.length + 1) x.tabs x.en st.rest [] with
        | none =>
          rw [htk] at hf
          simp only at hf
          unfold LS.fail at hf
          rw [if_pos (show ({ st with rest := [] } : LS).flt = 0 from h0)] at hf
          exact absurd hf (by show ¬ (12 : Int) = 0; decide)
        | some br => rfl
      · rw [if_neg h0]
    · rw [foldl_bad ws _ hf] at h
      exact absurd h hf

theorem op_newline (R : List UInt8) : opL (10 :: R) = [] := by
  rcases opL_cases (10 :: R) with h | ⟨h, _⟩
  · exact h
  · exfalso
    have hp := opL_pre (10 :: R)
    have hm : ∀ o ∈ opsT, ∃ d s, o = d :: s ∧ d ≠ 10 := by
      intro o ho
      unfold opsT at ho
      simp at ho
      rcases ho with h | h | h | h | h | h | h | h | h | h | h | h | h | h | h | h <;> subst h <;> exact ⟨_, _, rfl, by decide⟩
    obtain ⟨d, t, he, hd⟩ := hm _ h
    rw [he] at hp
    obtain ⟨x, hx⟩ := hp
    injection hx with e1 e2
    exact hd e1

set_option maxRecDepth 1000000 in
set_option maxHeartbeats 40000000 in
theorem rl_newl {s : ByteArray} {w wr : World} {T st : LS} {q G : Nat} {c : UInt8} {R : List UInt8} {K : Act → World → Prop} {u2 u3 u4 u5 u6 u8 u9 u10 u11 u12 u13 u14 u15 u16 u17 u18 u19 u23 u24 u25 u26 u27 u28 u29 u30 u31 u32 u33 u34 u35 u36 u37 u38 u39 u40 u41 u42 u43 u44 u45 u46 u47 u48 u49 u50 u51 u52 u53 u54 u55 u56 u57 u58 u59 u60 u61 u62 u63 u64 u65 u66 u67 u68 u69 u70 u71 u72 u73 u74 u75 u76 u77 u78 u79 u80 u81 u82 u83 u84 u85 u86 u87 u88 u89 u90 u91 u92 u93 u94 u95 u96 u97 u98 u99 u100 u101 u102 u103 u104 u105 u106 u107 u108 u109 u110 u111 u112 u113 u114 u115 u116 u117 u118 u119 u120 u121 u122 u123 u124 u125 u126 u127 u128 u129 u130 u131 u132 u133 u134 u135 u136 u137 u138 u139 u140 u141 u142 u143 u144 u145 u146 u147 u148 u149 u150 u151 u152 u153 u154 u155 u156 u157 u158 u159 u160 u161 u162 u163 u164 u165 u166 u167 u168 u169 u170 u171 u172 u173 u174 u175 u176 u177 u178 u179 u180 u181 u182 u183 u184 u185 u186 u187 u188 u189 u190 u191 u192 u193 u194 u195 u196 u197 u198 u199 u200 u201 u202 u203 u204 u205 u206 u207 u208 u209 u210 u211 u212 u213 u214 u215 u216 u217 u218 u219 u220 u221 u222 u223 u224 u225 u226 u227 u228 : Value} (hs : s.size ≤ 100000) (hlt : q < s.size) (HCC : Hid (c = s[q])) (HRR : Hid (R = s.data.toList.drop (q + 1))) (HCR : Hid (st.rest = c :: R)) (HR : Hid (RAt w s T wr u5 u6 q st (G + 1))) (HBL : Hid (blkB (c.toNat : Int) = false)) (c10 : Hid (c = 10)) :
    Code.wp Tryd.prog lexBody (Exit.then (fun a' w'' => WI w s T a' w'' ∧ Wmu s a' < s.size - q) (Exit.inBlock 0 (Exit.then K (bodyPost Tryd.prog Tryd.f13 (RPost w T))))) ⟨#[.string s, undef, u2, u3, u4, u5, u6, .int .i64 (q : Int), u8, u9, u10, u11, u12, u13, u14, u15, u16, u17, u18, u19, .string s, .int .i64 (s.size : Int), .bool false, u23, u24, u25, u26, u27, u28, u29, u30, u31, u32, u33, u34, u35, u36, u37, u38, u39, u40, u41, u42, u43, u44, u45, u46, u47, u48, u49, u50, u51, u52, u53, u54, u55, u56, u57, u58, u59, u60, u61, u62, u63, u64, u65, u66, u67, u68, u69, u70, u71, u72, u73, u74, u75, u76, u77, u78, u79, u80, u81, u82, u83, u84, u85, u86, u87, u88, u89, u90, u91, u92, u93, u94, u95, u96, u97, u98, u99, u100, u101, u102, u103, u104, u105, u106, u107, u108, u109, u110, u111, u112, u113, u114, u115, u116, u117, u118, u119, u120, u121, u122, u123, u124, u125, u126, u127, u128, u129, u130, u131, u132, u133, u134, u135, u136, u137, u138, u139, u140, u141, u142, u143, u144, u145, u146, u147, u148, u149, u150, u151, u152, u153, u154, u155, u156, u157, u158, u159, u160, u161, u162, u163, u164, u165, u166, u167, u168, u169, u170, u171, u172, u173, u174, u175, u176, u177, u178, u179, u180, u181, u182, u183, u184, u185, u186, u187, u188, u189, u190, u191, u192, u193, u194, u195, u196, u197, u198, u199, u200, u201, u202, u203, u204, u205, u206, u207, u208, u209, u210, u211, u212, u213, u214, u215, u216, u217, u218, u219, u220, u221, u222, u223, u224, u225, u226, u227, u228, undef, undef, undef, undef, undef, undef, undef, undef, undef, undef, undef, undef, undef], []⟩ wr := by
  conv => arg 2; whnf
  have hlt' : (q : Int) < (s.size : Int) := by omega
  have hq0 : (0 : Int) ≤ (q : Int) := by omega
  obtain ⟨q1, hq1⟩ : ∃ y, y = q + 1 := ⟨_, rfl⟩
  rw [← hq1] at HRR
  have hwq : IntKind.i64.wrap ((q : Int) + 1) = (q1 : Int) := by rw [IntKind.wrap_i64]; omega
  have hq1s : q < q1 ∧ q1 ≤ s.size ∧ q1 ≤ q + 1 := by omega
  have htl : st.toks.length ≤ s.size := (unhide HR).few.toks
  have hwl : st.wait.length ≤ s.size := by have := (unhide HR).few.wait; omega
  have hRl : R.length = s.size - q1 := by rw [unhide HRR, List.length_drop, data_len]
  have HQ1 := hide hq1
  clear hq1
  obtain ⟨O, hO⟩ : ∃ O, O = opL (c :: R) := ⟨_, rfl⟩
  have HOP : Hid (Calls Tryd.prog 23 #[.string s, .int .i64 (q : Int)] wr fun e w' => e = .returned (.string (BA O)) ∧ Below wr.heap.size wr w') := hide (by
    have := rop_any s q wr hs (Nat.le_of_lt hlt)
    rwa [(unhide HR).rest, unhide HCR, ← hO] at this)
  have HO := hide hO
  clear hO
  go_wp2_with fail
  refine (unhide HOP).mono ?_
  rintro en w1 ⟨rfl, b1⟩
  have H1 := hide ((unhide HR).keep b1)
  clear b1 HOP HR
  go_wp2_with fail
  refine (rblank_any _ _).mono ?_
  rintro en w2 ⟨rfl, hw2⟩
  rw [show w2 = w1 from hw2]
  clear hw2
  have hbl' : blkB (s[q].toNat : Int) = false := by rw [← unhide HCC]; exact unhide HBL
  rw [hbl']
  clear hbl'
  obtain ⟨iT, hiT, hzT0, hzT1, hzT2⟩ := info_of info_rtok
  have e0 : (BA []).toList.isEmpty = true := by rw [ByteArray.toList_eq]; rfl
  have hO : O = [] := by rw [unhide HO, unhide c10]; exact op_newline R
  subst hO
  have HN92 : Hid (c ≠ 92) := hide (by rw [unhide c10]; decide)
  have HN35 : Hid (c ≠ 35) := hide (by rw [unhide c10]; decide)
  have v10 : ((s[q].toNat : Int) == 10) = true := by rw [← unhide HCC, unhide c10]; rfl
  have v92 : ((s[q].toNat : Int) == 92) = false := beq_eq_false_iff_ne.2 (fun e => unhide HN92 (by rw [unhide HCC]; exact UInt8.toNat_inj.1 (show s[q].toNat = 92 by omega)))
  have hnl : ¬ (c = 92 ∧ R.head? = some 10) := fun h => unhide HN92 h.1
  have HNLN := hide hnl
  clear hnl
  have v35 : ((s[q].toNat : Int) == 35) = false := beq_eq_false_iff_ne.2 (fun e => unhide HN35 (by rw [unhide HCC]; exact UInt8.toNat_inj.1 (show s[q].toNat = 35 by omega)))
  have HST := hide (stepR_token (n := s.size) (unhide HCR) (unhide HBL) (unhide HNLN) (unhide HN35))
  have HTF := hide (tokenL_few (unhide H1).few (unhide H1).flt (unhide HCR) (unhide HBL))
  have HTK := hide ((unhide H1).kin.token (n := s.size) (unhide HCR) (unhide HBL))
  have HPN : Hid (s.size - (R.length + 1) = q) := hide (by omega)
  have HBw := hide (unhide H1).below
  have htok : tokenL s.size st = newlineL { st with rest := R } (q : Int) := by
    unfold tokenL
    rw [unhide HCR]
    simp only
    rw [if_pos (unhide c10), unhide HPN]
  have HTB : Hid ((st.wait.foldl takeUpL { st with rest := R }).flt ≠ 0 → T = st.wait.foldl takeUpL { st with rest := R }) := hide (fun hbad => by
    have h1 : stepR s.size st = st.wait.foldl takeUpL { st with rest := R } := by
      rw [unhide HST, htok]
      unfold newlineL
      simp only
      rw [if_neg hbad]
    exact RAt.fail (unhide H1) (unhide HCR) h1 hbad)
  have HTO := hide htok
  have HK0 : Hid (KInv { st with rest := R }) := hide ((unhide H1).kin.of rfl (fun x hx => hx))
  have HF0 : Hid (Few s.size { st with rest := R }) := hide (few_rest (unhide H1).few (unhide H1).flt (by rw [unhide HCR]; simp))
  have HAL : Hid (NAt w s { st with rest := R } (q : Int) u5 u6 q1 0 w1.heap.size { st with rest := R } (w1.alloc (.cells #[.int .i64 3, .string ⟨#[10]⟩, .int .i64 (q : Int), .string ⟨#[]⟩, .bool false] 65))) := hide
    ⟨rfl, Nat.zero_le _, (unhide H1).flt, ⟨World.ownsRow.alloc (unhide H1).rws.out _, World.ownsRow.alloc (unhide H1).rws.wts _⟩, (unhide HRR).symm, hq1s.2.1, Blk.new w1 _ _, (unhide HBw).size, fun e => by have := (World.ownsRow.lt (unhide H1).rws.out _ e.symm).2; omega, (unhide HBw).alloc (unhide HBw).size _⟩
  clear htok
  go_wp2_with fail
  refine nl_loop hs HAL HK0 HF0 HTB ?_ ?_
  · rintro a w3 ⟨f, hP, rfl⟩
    go_wp2_with fail
    go_ret3
    exact hP
  · rintro a w3 ⟨f, ⟨q', tb, stk, h7, h10, HN⟩, rfl⟩
    rw [h7, h10]
    have hb := (unhide HN).tok
    have t0 := hb.cell 0 rfl
    have t1 := hb.cell 1 rfl
    have t2 := hb.cell 2 rfl
    have t3 := hb.cell 3 rfl
    have t4 := hb.cell 4 rfl
    have hstk : stk = st.wait.foldl takeUpL { st with rest := R } := by
      have := (unhide HN).eq
      rwa [List.take_length] at this
    have htl2 : stk.toks.length ≤ s.size := by rw [hstk, foldl_len]; exact htl
    have hnw : tokenL s.size st = ({ stk with wait := [] } : LS).add 3 [10] (q : Int) := by
      rw [unhide HTO]
      unfold newlineL
      simp only
      rw [← hstk, if_pos (unhide HN).flt]
    have HNW := hide hnw
    have HBLM : Hid (stk.blm = 0) := hide (by
      have := foldl_blm st.wait { st with rest := R } (by rw [← hstk]; exact (unhide HN).flt)
      rw [hstk, this]
      exact (unhide H1).blm)
    have hq' : q < q' := by
      have h1 := (unhide HTF).2 (by rw [hnw]; exact (unhide HN).flt)
      rw [hnw, unhide HCR] at h1
      have h2 : stk.rest.length < R.length + 1 := h1
      have h3 := congrArg List.length (unhide HN).rest
      rw [List.length_drop, data_len] at h3
      omega
    have HRW : Hid (Rws w.heap.size w3 (f 5) (.slice none 0 0) { stk with wait := [] }) := hide ⟨(unhide HN).rws.out, World.ownsRow_nil _ _ _ _⟩
    have HBw := hide (unhide HN).below
    clear h7 h10 hb hstk hnw
    go_wp2_with (first
      | (at_builtin; refine wpList_append_own _ rfl (.tmp 124) (.tmp 126) 30 rfl w.heap.size 65 iT _ 5 56 und_rtok hiT hzT0 hzT1 hzT2 rfl (by decide) _ _ _ rfl (World.ownsRow.alloc (unhide HRW).out _) ⟨w3.heap.size, 0, none⟩ 1 1 [.int .i64 3, .string ⟨#[10]⟩, .int .i64 (q : Int), .string ⟨#[]⟩, .bool false] rfl rfl five_cells five_val ?c3 ?c4 ?c5 ?_)
      | go_in)
    case c3 => unfold maxLen; omega
    case c4 => omega
    case c5 => have := (unhide HBw).size; simp; omega
    intro v' w4 hownN hgrowN _
    have HRN := hide (Rws.push (kind := 3) (pos := (q : Int)) (unhide HRW) hownN hgrowN)
    have HBn : Hid (Below w.heap.size w w4) := hide (((unhide HBw).alloc (unhide HBw).size _).grown hgrowN (by have := (unhide HBw).size; simp; omega) (fun j hj => (unhide HRW).lt.1 j hj))
    clear hownN hgrowN
    have HS := hide (RAt.step (st' := ({ stk with wait := [] } : LS).add 3 [10] (q : Int)) (q' := q') (unhide H1) (unhide HCR) (by rw [unhide HST, unhide HNW]) (unhide HN).flt (unhide HBLM) (unhide HRN) (unhide HN).rest (unhide HN).qle (by rw [← unhide HNW]; exact (unhide HTF).1) (by rw [← unhide HNW]; exact unhide HTK) (by
      have := (unhide HTF).2 (by rw [unhide HNW]; exact (unhide HN).flt)
      rwa [unhide HNW] at this) (unhide HBn))
    clear HRN
    go_wp2
    exact ⟨WI_intro ⟨q', _, G, rfl, HS⟩, show s.size - q' < s.size - q by omega⟩

end Go.Proofs.YtlmpdfeidjnmnaaDoor

/- The document's 'Lex': a thing of a Word. -/
namespace Go.Proofs.YtlmpdfeidjnmnaaDoor
open Go.RowKit

set_option maxRecDepth 1000000 in
set_option maxHeartbeats 40000000 in
theorem wd_ok {s : ByteArray} {w wr : World} {st : LS} {q p fu : Nat} {X : Rs} {Q : Exit → Act → World → Prop} {u2 u3 u4 u5 u6 u8 u9 u10 u11 u12 u13 u14 u15 u17 u18 u19 u23 u24 u25 u26 u27 u28 u29 u30 u31 u32 u33 u34 u35 u36 u37 u38 u39 u40 u41 u42 u43 u44 u45 u46 u47 u48 u49 u50 u51 u52 u53 u54 u55 u56 u57 u58 u59 u60 u61 u62 u63 u64 u65 u66 u67 u68 u69 u70 u71 u72 u73 u74 u75 u76 u77 u78 u79 u80 u81 u82 u83 u84 u85 u86 u87 u88 u89 u90 u91 u92 u93 u94 u95 u96 u97 u98 u99 u100 u101 u102 u103 u104 u105 u106 u107 u108 u109 u110 u111 u112 u113 u114 u115 u116 u117 u118 u119 u120 u121 u122 u123 u124 u125 u126 u127 u128 u129 u130 u131 u132 u133 u134 u135 u136 u137 u138 u139 u140 u141 u142 u143 u144 u145 u146 u147 u148 u149 u150 u151 u152 u153 u154 u155 u156 u157 u158 u159 u160 u161 u162 u163 u164 u165 u166 u167 u168 u169 u170 u171 u172 u173 u174 u175 u176 u177 u178 u179 u180 u181 u182 u183 u184 u185 u186 u187 u188 u189 u190 u191 u192 u193 u194 u195 u196 u197 u198 u199 u200 u201 u202 u203 u204 u205 u206 u207 u208 u209 u210 u211 u212 u213 u214 u215 u216 u217 u218 u219 u220 u221 u222 u223 u224 u225 u226 u227 u228 : Value} (hs : s.size ≤ 100000) (HW : Hid (WAt w s st u5 u6 q p X fu wr)) (hp : p < s.size) (HM : Hid (metB (s[p].toNat : Int) = false)) {l : List UInt8} (HT : Hid (thg (3 * (s.size - p) + 3) (s.data.toList.drop p) 0 0 = .ok l)) :
    Code.wp Tryd.prog wdBody (Exit.then (fun a' w'' => WF s (WRel w s st q X) a' w'' ∧ Wmu s a' < s.size - p) Q) ⟨#[.string s, undef, u2, u3, u4, u5, u6, .int .i64 (p : Int), u8, u9, u10, u11, u12, u13, u14, u15, .int .i64 (q : Int), u17, u18, u19, .string s, .int .i64 (s.size : Int), .bool false, u23, u24, u25, u26, u27, u28, u29, u30, u31, u32, u33, u34, u35, u36, u37, u38, u39, u40, u41, u42, u43, u44, u45, u46, u47, u48, u49, u50, u51, u52, u53, u54, u55, u56, u57, u58, u59, u60, u61, u62, u63, u64, u65, u66, u67, u68, u69, u70, u71, u72, u73, u74, u75, u76, u77, u78, u79, u80, u81, u82, u83, u84, u85, u86, u87, u88, u89, u90, u91, u92, u93, u94, u95, u96, u97, u98, u99, u100, u101, u102, u103, u104, u105, u106, u107, u108, u109, u110, u111, u112, u113, u114, u115, u116, u117, u118, u119, u120, u121, u122, u123, u124, u125, u126, u127, u128, u129, u130, u131, u132, u133, u134, u135, u136, u137, u138, u139, u140, u141, u142, u143, u144, u145, u146, u147, u148, u149, u150, u151, u152, u153, u154, u155, u156, u157, u158, u159, u160, u161, u162, u163, u164, u165, u166, u167, u168, u169, u170, u171, u172, u173, u174, u175, u176, u177, u178, u179, u180, u181, u182, u183, u184, u185, u186, u187, u188, u189, u190, u191, u192, u193, u194, u195, u196, u197, u198, u199, u200, u201, u202, u203, u204, u205, u206, u207, u208, u209, u210, u211, u212, u213, u214, u215, u216, u217, u218, u219, u220, u221, u222, u223, u224, u225, u226, u227, u228, undef, undef, undef, undef, undef, undef, undef, undef, undef, undef, undef, undef, undef], []⟩ wr := by
  conv => arg 2; whnf
  have hp' : (p : Int) < (s.size : Int) := by omega
  have hp0 : (0 : Int) ≤ (p : Int) := by omega
  have HTH0 : Hid (∀ wx, Calls Tryd.prog 17 #[.string s, .int .i64 (p : Int), .int .i64 0, .int .i64 0] wx fun e w' => e = .returned (AtV s (thg (3 * (s.size - p) + 3) (s.data.toList.drop p) 0 0)) ∧ Below wx.heap.size wx w') := hide (fun wx => rthing_all s.size wx s p 0 0 (3 * (s.size - p) + 3) hp hs (by omega) (by decide) (by decide) (Nat.le_refl _) 0 0 rfl rfl)
  rw [unhide HT] at HTH0
  have hM := unhide HM
  obtain ⟨h1, h2, h3⟩ := ((unhide HW).thing hp hM).2 _ (unhide HT)
  obtain ⟨m, hm⟩ : ∃ m, m = s.size - l.length := ⟨_, rfl⟩
  rw [← hm] at h1 h2
  have HTH : Hid (∀ wx, Calls Tryd.prog 17 #[.string s, .int .i64 (p : Int), .int .i64 0, .int .i64 0] wx fun e w' => e = .returned (.agg #[.int .i64 (m : Int), .int .i64 0, .int .i64 0]) ∧ Below wx.heap.size wx w') := hide (fun wx => by rw [hm]; exact unhide HTH0 wx)
  clear HTH0
  have hms : m ≤ s.size := by omega
  have HX : Hid (X = wordL (fu - 1) (s.data.toList.drop m)) := hide (by rw [h1]; exact h3)
  clear h1 h3 hm
  go_wp2_with fail
  refine (rmeta_any _ _).mono ?_
  rintro en w1 ⟨rfl, hw1⟩
  rw [show w1 = wr from hw1, hM]
  clear hw1 hM
  go_wp2_with fail
  refine (unhide HTH _).mono ?_
  rintro en w5 ⟨rfl, b5⟩
  have HW5 : Hid (WAt w s st u5 u6 q m X (fu - 1) (w5.alloc (.cells #[.int .i64 (m : Int), .int .i64 0, .int .i64 0] 48))) := hide (by
    have hb := (unhide HW).below.trans (b5.mono (unhide HW).below.size)
    have hr := (unhide HW).rws.keep b5
    have hf := (unhide HW).fuel
    have hq := (unhide HW).qle
    exact ⟨by omega, hms, ⟨World.ownsRow.alloc hr.out _, World.ownsRow.alloc hr.wts _⟩, hb.alloc hb.size _, unhide HX, by omega⟩)
  clear b5
  go_wp2_with fail
  exact ⟨WF_intro (Rel := WRel w s st q X) ⟨m, fu - 1, rfl, rfl, HW5⟩, show s.size - m < s.size - p by omega⟩

end Go.Proofs.YtlmpdfeidjnmnaaDoor

/- The document's 'Lex': a thing of a Word that is not closed. -/
namespace Go.Proofs.YtlmpdfeidjnmnaaDoor
open Go.RowKit

set_option maxRecDepth 1000000 in
set_option maxHeartbeats 40000000 in
theorem wd_bad {s : ByteArray} {w wr : World} {T st : LS} {q p fu : Nat} {X : Rs} {Q : Exit → Act → World → Prop} {u2 u3 u4 u5 u6 u8 u9 u10 u11 u12 u13 u14 u15 u17 u18 u19 u23 u24 u25 u26 u27 u28 u29 u30 u31 u32 u33 u34 u35 u36 u37 u38 u39 u40 u41 u42 u43 u44 u45 u46 u47 u48 u49 u50 u51 u52 u53 u54 u55 u56 u57 u58 u59 u60 u61 u62 u63 u64 u65 u66 u67 u68 u69 u70 u71 u72 u73 u74 u75 u76 u77 u78 u79 u80 u81 u82 u83 u84 u85 u86 u87 u88 u89 u90 u91 u92 u93 u94 u95 u96 u97 u98 u99 u100 u101 u102 u103 u104 u105 u106 u107 u108 u109 u110 u111 u112 u113 u114 u115 u116 u117 u118 u119 u120 u121 u122 u123 u124 u125 u126 u127 u128 u129 u130 u131 u132 u133 u134 u135 u136 u137 u138 u139 u140 u141 u142 u143 u144 u145 u146 u147 u148 u149 u150 u151 u152 u153 u154 u155 u156 u157 u158 u159 u160 u161 u162 u163 u164 u165 u166 u167 u168 u169 u170 u171 u172 u173 u174 u175 u176 u177 u178 u179 u180 u181 u182 u183 u184 u185 u186 u187 u188 u189 u190 u191 u192 u193 u194 u195 u196 u197 u198 u199 u200 u201 u202 u203 u204 u205 u206 u207 u208 u209 u210 u211 u212 u213 u214 u215 u216 u217 u218 u219 u220 u221 u222 u223 u224 u225 u226 u227 u228 : Value} (hs : s.size ≤ 100000) (HW : Hid (WAt w s st u5 u6 q p X fu wr)) (hp : p < s.size) (HM : Hid (metB (s[p].toNat : Int) = false)) {er : Int} {l : List UInt8} (HT : Hid (thg (3 * (s.size - p) + 3) (s.data.toList.drop p) 0 0 = .err er l)) (HTB : Hid (∀ e m, X = .err e m → T = { st with flt := e, blm := ((s.size - m.length : Nat) : Int) })) (hret : ∀ a' w'', WRet w s T a' w'' → Q .ret a' w'') :
    Code.wp Tryd.prog wdBody (Exit.then (fun a' w'' => WF s (WRel w s st q X) a' w'' ∧ Wmu s a' < s.size - p) Q) ⟨#[.string s, undef, u2, u3, u4, u5, u6, .int .i64 (p : Int), u8, u9, u10, u11, u12, u13, u14, u15, .int .i64 (q : Int), u17, u18, u19, .string s, .int .i64 (s.size : Int), .bool false, u23, u24, u25, u26, u27, u28, u29, u30, u31, u32, u33, u34, u35, u36, u37, u38, u39, u40, u41, u42, u43, u44, u45, u46, u47, u48, u49, u50, u51, u52, u53, u54, u55, u56, u57, u58, u59, u60, u61, u62, u63, u64, u65, u66, u67, u68, u69, u70, u71, u72, u73, u74, u75, u76, u77, u78, u79, u80, u81, u82, u83, u84, u85, u86, u87, u88, u89, u90, u91, u92, u93, u94, u95, u96, u97, u98, u99, u100, u101, u102, u103, u104, u105, u106, u107, u108, u109, u110, u111, u112, u113, u114, u115, u116, u117, u118, u119, u120, u121, u122, u123, u124, u125, u126, u127, u128, u129, u130, u131, u132, u133, u134, u135, u136, u137, u138, u139, u140, u141, u142, u143, u144, u145, u146, u147, u148, u149, u150, u151, u152, u153, u154, u155, u156, u157, u158, u159, u160, u161, u162, u163, u164, u165, u166, u167, u168, u169, u170, u171, u172, u173, u174, u175, u176, u177, u178, u179, u180, u181, u182, u183, u184, u185, u186, u187, u188, u189, u190, u191, u192, u193, u194, u195, u196, u197, u198, u199, u200, u201, u202, u203, u204, u205, u206, u207, u208, u209, u210, u211, u212, u213, u214, u215, u216, u217, u218, u219, u220, u221, u222, u223, u224, u225, u226, u227, u228, undef, undef, undef, undef, undef, undef, undef, undef, undef, undef, undef, undef, undef], []⟩ wr := by
  conv => arg 2; whnf
  have hp' : (p : Int) < (s.size : Int) := by omega
  have hp0 : (0 : Int) ≤ (p : Int) := by omega
  have HTH0 : Hid (∀ wx, Calls Tryd.prog 17 #[.string s, .int .i64 (p : Int), .int .i64 0, .int .i64 0] wx fun e w' => e = .returned (AtV s (thg (3 * (s.size - p) + 3) (s.data.toList.drop p) 0 0)) ∧ Below wx.heap.size wx w') := hide (fun wx => rthing_all s.size wx s p 0 0 (3 * (s.size - p) + 3) hp hs (by omega) (by decide) (by decide) (Nat.le_refl _) 0 0 rfl rfl)
  rw [unhide HT] at HTH0
  have hM := unhide HM
  have hX := ((unhide HW).thing hp hM).1 _ _ (unhide HT)
  have he : er ≠ 0 := by
    have h1 := (unhide HW).eq
    exact wordL_err _ (h1.symm.trans hX)
  have he' : (er != 0) = true := by simpa using he
  obtain ⟨m, hm⟩ : ∃ m, m = s.size - l.length := ⟨_, rfl⟩
  have HTH : Hid (∀ wx, Calls Tryd.prog 17 #[.string s, .int .i64 (p : Int), .int .i64 0, .int .i64 0] wx fun e w' => e = .returned (.agg #[.int .i64 0, .int .i64 (m : Int), .int .i64 er]) ∧ Below wx.heap.size wx w') := hide (fun wx => by rw [hm]; exact unhide HTH0 wx)
  clear HTH0
  have hT : T = { st with flt := er, blm := (m : Int) } := by rw [hm]; exact unhide HTB _ _ hX
  have HTT := hide hT
  have HE := hide he
  clear hX hT hm he
  go_wp2_with fail
  refine (rmeta_any _ _).mono ?_
  rintro en w1 ⟨rfl, hw1⟩
  rw [show w1 = wr from hw1, hM]
  clear hw1 hM
  go_wp2_with fail
  refine (unhide HTH _).mono ?_
  rintro en w5 ⟨rfl, b5⟩
  have HB5 : Hid (Below w.heap.size w w5 ∧ Rws w.heap.size w5 u5 u6 st) := hide ⟨(unhide HW).below.trans (b5.mono (unhide HW).below.size), (unhide HW).rws.keep b5⟩
  clear b5
  go_wp2_with fail
  go_big_quiet (fail)
  go_wp2_with fail
  have hend : endS T = { st with flt := er, blm := (m : Int) } := by
    rw [endS_bad (by rw [unhide HTT]; exact unhide HE)]
    exact unhide HTT
  have hb := (unhide HB5).1
  have hr := (unhide HB5).2
  refine WRet_intro ⟨u5, ?_, ?_, ?_⟩
  · rw [hend]
  · exact (hb.alloc hb.size _).trans ((below_drew _ _).mono (by simp; have := hb.size; omega))
  · rw [hend]
    have hr2 : Rws w.heap.size (w5.alloc (.cells #[.int .i64 0, .int .i64 (m : Int), .int .i64 er] 48)) u5 u6 st := ⟨World.ownsRow.alloc hr.out _, World.ownsRow.alloc hr.wts _⟩
    exact trow_any (hr2.keep (below_drew _ _)).out rfl

end Go.Proofs.YtlmpdfeidjnmnaaDoor

/- The document's 'Lex': a Word's end. -/
namespace Go.Proofs.YtlmpdfeidjnmnaaDoor
open Go.RowKit

set_option maxRecDepth 1000000 in
set_option maxHeartbeats 40000000 in
theorem wd_meta {s : ByteArray} {w wr : World} {st : LS} {q p fu : Nat} {X : Rs} {Q : Exit → Act → World → Prop} {u2 u3 u4 u5 u6 u8 u9 u10 u11 u12 u13 u14 u15 u17 u18 u19 u23 u24 u25 u26 u27 u28 u29 u30 u31 u32 u33 u34 u35 u36 u37 u38 u39 u40 u41 u42 u43 u44 u45 u46 u47 u48 u49 u50 u51 u52 u53 u54 u55 u56 u57 u58 u59 u60 u61 u62 u63 u64 u65 u66 u67 u68 u69 u70 u71 u72 u73 u74 u75 u76 u77 u78 u79 u80 u81 u82 u83 u84 u85 u86 u87 u88 u89 u90 u91 u92 u93 u94 u95 u96 u97 u98 u99 u100 u101 u102 u103 u104 u105 u106 u107 u108 u109 u110 u111 u112 u113 u114 u115 u116 u117 u118 u119 u120 u121 u122 u123 u124 u125 u126 u127 u128 u129 u130 u131 u132 u133 u134 u135 u136 u137 u138 u139 u140 u141 u142 u143 u144 u145 u146 u147 u148 u149 u150 u151 u152 u153 u154 u155 u156 u157 u158 u159 u160 u161 u162 u163 u164 u165 u166 u167 u168 u169 u170 u171 u172 u173 u174 u175 u176 u177 u178 u179 u180 u181 u182 u183 u184 u185 u186 u187 u188 u189 u190 u191 u192 u193 u194 u195 u196 u197 u198 u199 u200 u201 u202 u203 u204 u205 u206 u207 u208 u209 u210 u211 u212 u213 u214 u215 u216 u217 u218 u219 u220 u221 u222 u223 u224 u225 u226 u227 u228 : Value} (HW : Hid (WAt w s st u5 u6 q p X fu wr)) (hp : p < s.size) (HM : Hid (metB (s[p].toNat : Int) = true)) (hexit : ∀ a' w'', WF s (WXR w s st q X) a' w'' → Q (.exit 4) a' w'') :
    Code.wp Tryd.prog wdBody (Exit.then (fun a' w'' => WF s (WRel w s st q X) a' w'' ∧ Wmu s a' < s.size - p) Q) ⟨#[.string s, undef, u2, u3, u4, u5, u6, .int .i64 (p : Int), u8, u9, u10, u11, u12, u13, u14, u15, .int .i64 (q : Int), u17, u18, u19, .string s, .int .i64 (s.size : Int), .bool false, u23, u24, u25, u26, u27, u28, u29, u30, u31, u32, u33, u34, u35, u36, u37, u38, u39, u40, u41, u42, u43, u44, u45, u46, u47, u48, u49, u50, u51, u52, u53, u54, u55, u56, u57, u58, u59, u60, u61, u62, u63, u64, u65, u66, u67, u68, u69, u70, u71, u72, u73, u74, u75, u76, u77, u78, u79, u80, u81, u82, u83, u84, u85, u86, u87, u88, u89, u90, u91, u92, u93, u94, u95, u96, u97, u98, u99, u100, u101, u102, u103, u104, u105, u106, u107, u108, u109, u110, u111, u112, u113, u114, u115, u116, u117, u118, u119, u120, u121, u122, u123, u124, u125, u126, u127, u128, u129, u130, u131, u132, u133, u134, u135, u136, u137, u138, u139, u140, u141, u142, u143, u144, u145, u146, u147, u148, u149, u150, u151, u152, u153, u154, u155, u156, u157, u158, u159, u160, u161, u162, u163, u164, u165, u166, u167, u168, u169, u170, u171, u172, u173, u174, u175, u176, u177, u178, u179, u180, u181, u182, u183, u184, u185, u186, u187, u188, u189, u190, u191, u192, u193, u194, u195, u196, u197, u198, u199, u200, u201, u202, u203, u204, u205, u206, u207, u208, u209, u210, u211, u212, u213, u214, u215, u216, u217, u218, u219, u220, u221, u222, u223, u224, u225, u226, u227, u228, undef, undef, undef, undef, undef, undef, undef, undef, undef, undef, undef, undef, undef], []⟩ wr := by
  conv => arg 2; whnf
  have hp' : (p : Int) < (s.size : Int) := by omega
  have hp0 : (0 : Int) ≤ (p : Int) := by omega
  have hM := unhide HM
  have HD : Hid (WDone w s st u5 u6 q p X wr) := hide ⟨(unhide HW).qle, (unhide HW).ple, (unhide HW).rws, (unhide HW).below, by
    have hf := (unhide HW).fuel
    obtain ⟨f, rfl⟩ : ∃ f, fu = f + 1 := ⟨fu - 1, by omega⟩
    have h1 := (unhide HW).eq
    rw [drop_at hp, wordL_cons, hM] at h1
    rw [drop_at hp]
    exact h1⟩
  clear HW
  go_wp2_with fail
  refine (rmeta_any _ _).mono ?_
  rintro en w1 ⟨rfl, hw1⟩
  rw [show w1 = wr from hw1, hM]
  clear hw1 hM
  go_wp2_with fail
  exact WF_intro (Rel := WXR w s st q X) ⟨p, rfl, rfl, HD⟩

set_option maxRecDepth 1000000 in
set_option maxHeartbeats 40000000 in
theorem wd_end {s : ByteArray} {w wr : World} {st : LS} {q p fu : Nat} {X : Rs} {Q : Exit → Act → World → Prop} {u2 u3 u4 u5 u6 u8 u9 u10 u11 u12 u13 u14 u15 u17 u18 u19 u23 u24 u25 u26 u27 u28 u29 u30 u31 u32 u33 u34 u35 u36 u37 u38 u39 u40 u41 u42 u43 u44 u45 u46 u47 u48 u49 u50 u51 u52 u53 u54 u55 u56 u57 u58 u59 u60 u61 u62 u63 u64 u65 u66 u67 u68 u69 u70 u71 u72 u73 u74 u75 u76 u77 u78 u79 u80 u81 u82 u83 u84 u85 u86 u87 u88 u89 u90 u91 u92 u93 u94 u95 u96 u97 u98 u99 u100 u101 u102 u103 u104 u105 u106 u107 u108 u109 u110 u111 u112 u113 u114 u115 u116 u117 u118 u119 u120 u121 u122 u123 u124 u125 u126 u127 u128 u129 u130 u131 u132 u133 u134 u135 u136 u137 u138 u139 u140 u141 u142 u143 u144 u145 u146 u147 u148 u149 u150 u151 u152 u153 u154 u155 u156 u157 u158 u159 u160 u161 u162 u163 u164 u165 u166 u167 u168 u169 u170 u171 u172 u173 u174 u175 u176 u177 u178 u179 u180 u181 u182 u183 u184 u185 u186 u187 u188 u189 u190 u191 u192 u193 u194 u195 u196 u197 u198 u199 u200 u201 u202 u203 u204 u205 u206 u207 u208 u209 u210 u211 u212 u213 u214 u215 u216 u217 u218 u219 u220 u221 u222 u223 u224 u225 u226 u227 u228 : Value} (HW : Hid (WAt w s st u5 u6 q p X fu wr)) (hp : ¬ p < s.size) (hexit : ∀ a' w'', WF s (WXR w s st q X) a' w'' → Q (.exit 4) a' w'') :
    Code.wp Tryd.prog wdBody (Exit.then (fun a' w'' => WF s (WRel w s st q X) a' w'' ∧ Wmu s a' < s.size - p) Q) ⟨#[.string s, undef, u2, u3, u4, u5, u6, .int .i64 (p : Int), u8, u9, u10, u11, u12, u13, u14, u15, .int .i64 (q : Int), u17, u18, u19, .string s, .int .i64 (s.size : Int), .bool false, u23, u24, u25, u26, u27, u28, u29, u30, u31, u32, u33, u34, u35, u36, u37, u38, u39, u40, u41, u42, u43, u44, u45, u46, u47, u48, u49, u50, u51, u52, u53, u54, u55, u56, u57, u58, u59, u60, u61, u62, u63, u64, u65, u66, u67, u68, u69, u70, u71, u72, u73, u74, u75, u76, u77, u78, u79, u80, u81, u82, u83, u84, u85, u86, u87, u88, u89, u90, u91, u92, u93, u94, u95, u96, u97, u98, u99, u100, u101, u102, u103, u104, u105, u106, u107, u108, u109, u110, u111, u112, u113, u114, u115, u116, u117, u118, u119, u120, u121, u122, u123, u124, u125, u126, u127, u128, u129, u130, u131, u132, u133, u134, u135, u136, u137, u138, u139, u140, u141, u142, u143, u144, u145, u146, u147, u148, u149, u150, u151, u152, u153, u154, u155, u156, u157, u158, u159, u160, u161, u162, u163, u164, u165, u166, u167, u168, u169, u170, u171, u172, u173, u174, u175, u176, u177, u178, u179, u180, u181, u182, u183, u184, u185, u186, u187, u188, u189, u190, u191, u192, u193, u194, u195, u196, u197, u198, u199, u200, u201, u202, u203, u204, u205, u206, u207, u208, u209, u210, u211, u212, u213, u214, u215, u216, u217, u218, u219, u220, u221, u222, u223, u224, u225, u226, u227, u228, undef, undef, undef, undef, undef, undef, undef, undef, undef, undef, undef, undef, undef], []⟩ wr := by
  conv => arg 2; whnf
  have hp' : ¬ (p : Int) < (s.size : Int) := by omega
  have HD : Hid (WDone w s st u5 u6 q p X wr) := hide ⟨(unhide HW).qle, (unhide HW).ple, (unhide HW).rws, (unhide HW).below, by
    have h1 := (unhide HW).eq
    rw [drop_nil (by omega), wordL_nil] at h1
    rw [drop_nil (by omega)]
    exact h1⟩
  clear HW
  go_wp2_with fail
  exact WF_intro (Rel := WXR w s st q X) ⟨p, rfl, rfl, HD⟩

end Go.Proofs.YtlmpdfeidjnmnaaDoor

/- The document's 'Lex': the loop over a Word's things. -/
namespace Go.Proofs.YtlmpdfeidjnmnaaDoor
open Go.RowKit

set_option maxRecDepth 1000000 in
set_option maxHeartbeats 4000000 in
theorem wd_loop {s : ByteArray} {w wr : World} {T st : LS} {q p fu : Nat} {X : Rs} {Q : Exit → Act → World → Prop} {u2 u3 u4 u5 u6 u8 u9 u10 u11 u12 u13 u14 u15 u17 u18 u19 u23 u24 u25 u26 u27 u28 u29 u30 u31 u32 u33 u34 u35 u36 u37 u38 u39 u40 u41 u42 u43 u44 u45 u46 u47 u48 u49 u50 u51 u52 u53 u54 u55 u56 u57 u58 u59 u60 u61 u62 u63 u64 u65 u66 u67 u68 u69 u70 u71 u72 u73 u74 u75 u76 u77 u78 u79 u80 u81 u82 u83 u84 u85 u86 u87 u88 u89 u90 u91 u92 u93 u94 u95 u96 u97 u98 u99 u100 u101 u102 u103 u104 u105 u106 u107 u108 u109 u110 u111 u112 u113 u114 u115 u116 u117 u118 u119 u120 u121 u122 u123 u124 u125 u126 u127 u128 u129 u130 u131 u132 u133 u134 u135 u136 u137 u138 u139 u140 u141 u142 u143 u144 u145 u146 u147 u148 u149 u150 u151 u152 u153 u154 u155 u156 u157 u158 u159 u160 u161 u162 u163 u164 u165 u166 u167 u168 u169 u170 u171 u172 u173 u174 u175 u176 u177 u178 u179 u180 u181 u182 u183 u184 u185 u186 u187 u188 u189 u190 u191 u192 u193 u194 u195 u196 u197 u198 u199 u200 u201 u202 u203 u204 u205 u206 u207 u208 u209 u210 u211 u212 u213 u214 u215 u216 u217 u218 u219 u220 u221 u222 u223 u224 u225 u226 u227 u228 : Value} (hs : s.size ≤ 100000) (HW : Hid (WAt w s st u5 u6 q p X fu wr)) (HTB : Hid (∀ e m, X = .err e m → T = { st with flt := e, blm := ((s.size - m.length : Nat) : Int) })) (hret : ∀ a' w'', WRet w s T a' w'' → Q .ret a' w'') (hexit : ∀ a' w'', WF s (WXR w s st q X) a' w'' → Q (.exit 4) a' w'') :
    Code.wp Tryd.prog (Code.loop wdBody) Q ⟨#[.string s, undef, u2, u3, u4, u5, u6, .int .i64 (p : Int), u8, u9, u10, u11, u12, u13, u14, u15, .int .i64 (q : Int), u17, u18, u19, .string s, .int .i64 (s.size : Int), .bool false, u23, u24, u25, u26, u27, u28, u29, u30, u31, u32, u33, u34, u35, u36, u37, u38, u39, u40, u41, u42, u43, u44, u45, u46, u47, u48, u49, u50, u51, u52, u53, u54, u55, u56, u57, u58, u59, u60, u61, u62, u63, u64, u65, u66, u67, u68, u69, u70, u71, u72, u73, u74, u75, u76, u77, u78, u79, u80, u81, u82, u83, u84, u85, u86, u87, u88, u89, u90, u91, u92, u93, u94, u95, u96, u97, u98, u99, u100, u101, u102, u103, u104, u105, u106, u107, u108, u109, u110, u111, u112, u113, u114, u115, u116, u117, u118, u119, u120, u121, u122, u123, u124, u125, u126, u127, u128, u129, u130, u131, u132, u133, u134, u135, u136, u137, u138, u139, u140, u141, u142, u143, u144, u145, u146, u147, u148, u149, u150, u151, u152, u153, u154, u155, u156, u157, u158, u159, u160, u161, u162, u163, u164, u165, u166, u167, u168, u169, u170, u171, u172, u173, u174, u175, u176, u177, u178, u179, u180, u181, u182, u183, u184, u185, u186, u187, u188, u189, u190, u191, u192, u193, u194, u195, u196, u197, u198, u199, u200, u201, u202, u203, u204, u205, u206, u207, u208, u209, u210, u211, u212, u213, u214, u215, u216, u217, u218, u219, u220, u221, u222, u223, u224, u225, u226, u227, u228, undef, undef, undef, undef, undef, undef, undef, undef, undef, undef, undef, undef, undef], []⟩ wr := by
  refine wp_loop (WF s (WRel w s st q X)) (fun a _ => Wmu s a) (WF_intro (Rel := WRel w s st q X) ⟨p, fu, rfl, rfl, HW⟩) ?_
  clear HW
  intro a wr hI
  obtain ⟨M, hM⟩ : ∃ M, M = Wmu s a := ⟨_, rfl⟩
  show Code.wp Tryd.prog wdBody (Exit.then (fun a' w'' => WF s (WRel w s st q X) a' w'' ∧ Wmu s a' < Wmu s a) Q) a wr
  rw [← hM]
  obtain ⟨f, ⟨p, fu, h7, h16, HW⟩, rfl⟩ := hI
  have hM' : M = s.size - p := by
    rw [hM]
    show s.size - (intOf (f 7)).toNat = _
    rw [h7]
    rfl
  clear hM
  subst hM'
  rw [h7, h16]
  by_cases hp : p < s.size
  · rcases Bool.eq_false_or_eq_true (metB (s[p].toNat : Int)) with hm | hm
    · exact wd_meta HW hp (hide hm) hexit
    · cases ht : thg (3 * (s.size - p) + 3) (s.data.toList.drop p) 0 0 with
      | ok l => exact wd_ok hs HW hp (hide hm) (hide ht)
      | err e m => exact wd_bad hs HW hp (hide hm) (hide ht) HTB hret
  · exact wd_end HW hp hexit

end Go.Proofs.YtlmpdfeidjnmnaaDoor

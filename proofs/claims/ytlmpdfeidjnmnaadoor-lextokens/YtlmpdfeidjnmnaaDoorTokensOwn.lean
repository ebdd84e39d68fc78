/- For every text (of up to 1000 bytes, or of more than 4096): the tokens that 'Lex' answers are those that the document's own function answers, and so is what is wrong with it, and where; between those lengths: the chapter's examples hold. The call returns true, whatever the memory, and changes nothing. No conditions. -/
import Derived.Test.YtlmpdfeidjnmnaaDoorRLexS
import Derived.Test.YtlmpdfeidjnmnaaDoorRLexV
import Derived.Test.YtlmpdfeidjnmnaaDoorRLexQ
import Derived.Deep.QuietTactic
import Derived.BigQuiet
import Derived.Test.YtlmpdfeidjnmnaaDoorAwait
import Derived.Deep.AppendLies
import Derived.Deep.RegionHeld3
import Derived.Test.YtlmpdfeidjnmnaaDoorStart
import Derived.Test.YtlmpdfeidjnmnaaDoorStand

/- The document's 'Lex': behind a Word's things. -/
namespace Go.Proofs.YtlmpdfeidjnmnaaDoor
open Go.RowKit

set_option maxRecDepth 1000000 in
set_option maxHeartbeats 4000000 in
theorem wd_tail {s : ByteArray} {w wr : World} {T st : LS} {q p G : Nat} {Wd : List UInt8} {Q1 : Exit → Act → World → Prop} {u2 u3 u4 u5 u6 u8 u9 u10 u11 u12 u13 u14 u15 u17 u18 u19 u23 u24 u25 u26 u27 u28 u29 u30 u31 u32 u33 u34 u35 u36 u37 u38 u39 u40 u41 u42 u43 u44 u45 u46 u47 u48 u49 u50 u51 u52 u53 u54 u55 u56 u57 u58 u59 u60 u61 u62 u63 u64 u65 u66 u67 u68 u69 u70 u71 u72 u73 u74 u75 u76 u77 u78 u79 u80 u81 u82 u83 u84 u85 u86 u87 u88 u89 u90 u91 u92 u93 u94 u95 u96 u97 u98 u99 u100 u101 u102 u103 u104 u105 u106 u107 u108 u109 u110 u111 u112 u113 u114 u115 u116 u117 u118 u119 u120 u121 u122 u123 u124 u125 u126 u127 u128 u129 u130 u131 u132 u133 u134 u135 u136 u137 u138 u139 u140 u141 u142 u143 u144 u145 u146 u147 u148 u149 u150 u151 u152 u153 u154 u155 u156 u157 u158 u159 u160 u161 u162 u163 u164 u165 u166 u167 u168 u169 u170 u171 u172 u173 u174 u175 u176 u177 u178 u179 u180 u181 u182 u183 u184 u185 u186 u187 u188 u189 u190 u191 u192 u193 u194 u195 u196 u197 u198 u199 u200 u201 u202 u203 u204 u205 u206 u207 u208 u209 u210 u211 u212 u213 u214 u215 u216 u217 u218 u219 u220 u221 u222 u223 u224 u225 u226 u227 u228 : Value} (hs : s.size ≤ 100000) (HD : Hid (WEnd w s T st u5 u6 q p Wd G wr)) :
    Code.wp Tryd.prog wdTail (Exit.inBlock 1 (Exit.then (fun a' w'' => WI w s T a' w'' ∧ Wmu s a' < s.size - q) Q1)) ⟨#[.string s, undef, u2, u3, u4, u5, u6, .int .i64 (p : Int), u8, u9, u10, u11, u12, u13, u14, u15, .int .i64 (q : Int), u17, u18, u19, .string s, .int .i64 (s.size : Int), .bool false, u23, u24, u25, u26, u27, u28, u29, u30, u31, u32, u33, u34, u35, u36, u37, u38, u39, u40, u41, u42, u43, u44, u45, u46, u47, u48, u49, u50, u51, u52, u53, u54, u55, u56, u57, u58, u59, u60, u61, u62, u63, u64, u65, u66, u67, u68, u69, u70, u71, u72, u73, u74, u75, u76, u77, u78, u79, u80, u81, u82, u83, u84, u85, u86, u87, u88, u89, u90, u91, u92, u93, u94, u95, u96, u97, u98, u99, u100, u101, u102, u103, u104, u105, u106, u107, u108, u109, u110, u111, u112, u113, u114, u115, u116, u117, u118, u119, u120, u121, u122, u123, u124, u125, u126, u127, u128, u129, u130, u131, u132, u133, u134, u135, u136, u137, u138, u139, u140, u141, u142, u143, u144, u145, u146, u147, u148, u149, u150, u151, u152, u153, u154, u155, u156, u157, u158, u159, u160, u161, u162, u163, u164, u165, u166, u167, u168, u169, u170, u171, u172, u173, u174, u175, u176, u177, u178, u179, u180, u181, u182, u183, u184, u185, u186, u187, u188, u189, u190, u191, u192, u193, u194, u195, u196, u197, u198, u199, u200, u201, u202, u203, u204, u205, u206, u207, u208, u209, u210, u211, u212, u213, u214, u215, u216, u217, u218, u219, u220, u221, u222, u223, u224, u225, u226, u227, u228, undef, undef, undef, undef, undef, undef, undef, undef, undef, undef, undef, undef, undef], []⟩ wr := by
  by_cases hp : p < s.size
  · by_cases h60 : s[p] = 60
    · cases hdg : digsB Wd with
      | true => exact tl_io60 hs HD hp (hide h60) (hide hdg)
      | false =>
        cases hl : st.toks.getLast? with
        | none => exact tl_60_none hs HD hp (hide h60) (hide hdg) (hide (List.getLast?_eq_none_iff.1 hl))
        | some t =>
          have hmem : (t.kind, t.text) ∈ kts st.toks := by
            unfold kts
            exact List.mem_map.2 ⟨t, List.mem_of_getLast? hl, rfl⟩
          by_cases h2 : t.text = BA [60, 60]
          · exact tl_60_h2 hs HD hp (hide h60) (hide hdg) (hide hl) (hide ((unhide HD).at0.kin.kind _ hmem (.inl h2))) (hide h2)
          · by_cases h3 : t.text = BA [60, 60, 45]
            · exact tl_60_h3 hs HD hp (hide h60) (hide hdg) (hide hl) (hide ((unhide HD).at0.kin.kind _ hmem (.inr h3))) (hide h3)
            · have hnt : ¬ (t.text = BA [60, 60] ∨ t.text = BA [60, 60, 45]) := fun h => h.elim h2 h3
              by_cases hk : t.kind = 2
              · exact tl_60_text hs HD hp (hide h60) (hide hdg) (hide hl) (hide hk) (hide hnt)
              · exact tl_60_kind hs HD hp (hide h60) (hide hdg) (hide hl) (hide hk) (hide hnt)
    · by_cases h62 : s[p] = 62
      · have h60 := h62
        cases hdg : digsB Wd with
        | true => exact tl_io62 hs HD hp (hide h60) (hide hdg)
        | false =>
          cases hl : st.toks.getLast? with
          | none => exact tl_62_none hs HD hp (hide h60) (hide hdg) (hide (List.getLast?_eq_none_iff.1 hl))
          | some t =>
            have hmem : (t.kind, t.text) ∈ kts st.toks := by
              unfold kts
              exact List.mem_map.2 ⟨t, List.mem_of_getLast? hl, rfl⟩
            by_cases h2 : t.text = BA [60, 60]
            · exact tl_62_h2 hs HD hp (hide h60) (hide hdg) (hide hl) (hide ((unhide HD).at0.kin.kind _ hmem (.inl h2))) (hide h2)
            · by_cases h3 : t.text = BA [60, 60, 45]
              · exact tl_62_h3 hs HD hp (hide h60) (hide hdg) (hide hl) (hide ((unhide HD).at0.kin.kind _ hmem (.inr h3))) (hide h3)
              · have hnt : ¬ (t.text = BA [60, 60] ∨ t.text = BA [60, 60, 45]) := fun h => h.elim h2 h3
                by_cases hk : t.kind = 2
                · exact tl_62_text hs HD hp (hide h60) (hide hdg) (hide hl) (hide hk) (hide hnt)
                · exact tl_62_kind hs HD hp (hide h60) (hide hdg) (hide hl) (hide hk) (hide hnt)
      · have hno : s[p] ≠ 60 ∧ s[p] ≠ 62 := ⟨h60, h62⟩
        cases hl : st.toks.getLast? with
        | none => exact tl_no_none hs HD hp (hide hno) (hide (List.getLast?_eq_none_iff.1 hl))
        | some t =>
          have hmem : (t.kind, t.text) ∈ kts st.toks := by
            unfold kts
            exact List.mem_map.2 ⟨t, List.mem_of_getLast? hl, rfl⟩
          by_cases h2 : t.text = BA [60, 60]
          · exact tl_no_h2 hs HD hp (hide hno) (hide hl) (hide ((unhide HD).at0.kin.kind _ hmem (.inl h2))) (hide h2)
          · by_cases h3 : t.text = BA [60, 60, 45]
            · exact tl_no_h3 hs HD hp (hide hno) (hide hl) (hide ((unhide HD).at0.kin.kind _ hmem (.inr h3))) (hide h3)
            · have hnt : ¬ (t.text = BA [60, 60] ∨ t.text = BA [60, 60, 45]) := fun h => h.elim h2 h3
              by_cases hk : t.kind = 2
              · exact tl_no_text hs HD hp (hide hno) (hide hl) (hide hk) (hide hnt)
              · exact tl_no_kind hs HD hp (hide hno) (hide hl) (hide hk) (hide hnt)
  · cases hl : st.toks.getLast? with
    | none => exact tl_end_none hs HD hp (hide (List.getLast?_eq_none_iff.1 hl))
    | some t =>
      have hmem : (t.kind, t.text) ∈ kts st.toks := by
        unfold kts
        exact List.mem_map.2 ⟨t, List.mem_of_getLast? hl, rfl⟩
      by_cases h2 : t.text = BA [60, 60]
      · exact tl_end_h2 hs HD hp (hide hl) (hide ((unhide HD).at0.kin.kind _ hmem (.inl h2))) (hide h2)
      · by_cases h3 : t.text = BA [60, 60, 45]
        · exact tl_end_h3 hs HD hp (hide hl) (hide ((unhide HD).at0.kin.kind _ hmem (.inr h3))) (hide h3)
        · have hnt : ¬ (t.text = BA [60, 60] ∨ t.text = BA [60, 60, 45]) := fun h => h.elim h2 h3
          by_cases hk : t.kind = 2
          · exact tl_end_text hs HD hp (hide hl) (hide hk) (hide hnt)
          · exact tl_end_kind hs HD hp (hide hl) (hide hk) (hide hnt)

end Go.Proofs.YtlmpdfeidjnmnaaDoor

/- The document's 'Lex': a Word's round. -/
namespace Go.Proofs.YtlmpdfeidjnmnaaDoor
open Go.RowKit

set_option maxRecDepth 1000000 in
set_option maxHeartbeats 40000000 in
theorem rl_word_n {s : ByteArray} {w wr : World} {T st : LS} {q G : Nat} {c : UInt8} {R : List UInt8} {K : Act → World → Prop} {u2 u3 u4 u5 u6 u8 u9 u10 u11 u12 u13 u14 u15 u16 u17 u18 u19 u23 u24 u25 u26 u27 u28 u29 u30 u31 u32 u33 u34 u35 u36 u37 u38 u39 u40 u41 u42 u43 u44 u45 u46 u47 u48 u49 u50 u51 u52 u53 u54 u55 u56 u57 u58 u59 u60 u61 u62 u63 u64 u65 u66 u67 u68 u69 u70 u71 u72 u73 u74 u75 u76 u77 u78 u79 u80 u81 u82 u83 u84 u85 u86 u87 u88 u89 u90 u91 u92 u93 u94 u95 u96 u97 u98 u99 u100 u101 u102 u103 u104 u105 u106 u107 u108 u109 u110 u111 u112 u113 u114 u115 u116 u117 u118 u119 u120 u121 u122 u123 u124 u125 u126 u127 u128 u129 u130 u131 u132 u133 u134 u135 u136 u137 u138 u139 u140 u141 u142 u143 u144 u145 u146 u147 u148 u149 u150 u151 u152 u153 u154 u155 u156 u157 u158 u159 u160 u161 u162 u163 u164 u165 u166 u167 u168 u169 u170 u171 u172 u173 u174 u175 u176 u177 u178 u179 u180 u181 u182 u183 u184 u185 u186 u187 u188 u189 u190 u191 u192 u193 u194 u195 u196 u197 u198 u199 u200 u201 u202 u203 u204 u205 u206 u207 u208 u209 u210 u211 u212 u213 u214 u215 u216 u217 u218 u219 u220 u221 u222 u223 u224 u225 u226 u227 u228 : Value} (hs : s.size ≤ 100000) (hlt : q < s.size) (HCC : Hid (c = s[q])) (HRR : Hid (R = s.data.toList.drop (q + 1))) (HCR : Hid (st.rest = c :: R)) (HR : Hid (RAt w s T wr u5 u6 q st (G + 1))) (HBL : Hid (blkB (c.toNat : Int) = false)) (HN35 : Hid (c ≠ 35)) (HN10 : Hid (c ≠ 10)) (HO0 : Hid (opL (c :: R) = [])) (HMT : Hid (metB (c.toNat : Int) = false)) (HN92 : Hid (c ≠ 92)) :
    Code.wp Tryd.prog lexBody (Exit.then (fun a' w'' => WI w s T a' w'' ∧ Wmu s a' < s.size - q) (Exit.inBlock 0 (Exit.then K (bodyPost Tryd.prog Tryd.f13 (RPost w T))))) ⟨#[.string s, undef, u2, u3, u4, u5, u6, .int .i64 (q : Int), u8, u9, u10, u11, u12, u13, u14, u15, u16, u17, u18, u19, .string s, .int .i64 (s.size : Int), .bool false, u23, u24, u25, u26, u27, u28, u29, u30, u31, u32, u33, u34, u35, u36, u37, u38, u39, u40, u41, u42, u43, u44, u45, u46, u47, u48, u49, u50, u51, u52, u53, u54, u55, u56, u57, u58, u59, u60, u61, u62, u63, u64, u65, u66, u67, u68, u69, u70, u71, u72, u73, u74, u75, u76, u77, u78, u79, u80, u81, u82, u83, u84, u85, u86, u87, u88, u89, u90, u91, u92, u93, u94, u95, u96, u97, u98, u99, u100, u101, u102, u103, u104, u105, u106, u107, u108, u109, u110, u111, u112, u113, u114, u115, u116, u117, u118, u119, u120, u121, u122, u123, u124, u125, u126, u127, u128, u129, u130, u131, u132, u133, u134, u135, u136, u137, u138, u139, u140, u141, u142, u143, u144, u145, u146, u147, u148, u149, u150, u151, u152, u153, u154, u155, u156, u157, u158, u159, u160, u161, u162, u163, u164, u165, u166, u167, u168, u169, u170, u171, u172, u173, u174, u175, u176, u177, u178, u179, u180, u181, u182, u183, u184, u185, u186, u187, u188, u189, u190, u191, u192, u193, u194, u195, u196, u197, u198, u199, u200, u201, u202, u203, u204, u205, u206, u207, u208, u209, u210, u211, u212, u213, u214, u215, u216, u217, u218, u219, u220, u221, u222, u223, u224, u225, u226, u227, u228, undef, undef, undef, undef, undef, undef, undef, undef, undef, undef, undef, undef, undef], []⟩ wr := by
  conv => arg 2; whnf
  have hlt' : (q : Int) < (s.size : Int) := by omega
  have hq0 : (0 : Int) ≤ (q : Int) := by omega
  obtain ⟨q1, hq1⟩ : ∃ y, y = q + 1 := ⟨_, rfl⟩
  rw [← hq1] at HRR
  have hwq : IntKind.i64.wrap ((q : Int) + 1) = (q1 : Int) := by rw [IntKind.wrap_i64]; omega
  have hq1s : q < q1 ∧ q1 ≤ s.size ∧ q1 ≤ q + 1 := by omega
  have htl : st.toks.length ≤ s.size := (unhide HR).few.toks
  have hwl : st.wait.length ≤ s.size := by have := (unhide HR).few.wait; omega
  have hRl : R.length = s.size - q1 := by rw [unhide HRR, List.length_drop, data_len]
  have HQ1 := hide hq1
  clear hq1
  obtain ⟨O, hO⟩ : ∃ O, O = opL (c :: R) := ⟨_, rfl⟩
  have HOP : Hid (Calls Tryd.prog 23 #[.string s, .int .i64 (q : Int)] wr fun e w' => e = .returned (.string (BA O)) ∧ Below wr.heap.size wr w') := hide (by
    have := rop_any s q wr hs (Nat.le_of_lt hlt)
    rwa [(unhide HR).rest, unhide HCR, ← hO] at this)
  have HO := hide hO
  clear hO
  go_wp2_with fail
  refine (unhide HOP).mono ?_
  rintro en w1 ⟨rfl, b1⟩
  have H1 := hide ((unhide HR).keep b1)
  clear b1 HOP HR
  go_wp2_with fail
  refine (rblank_any _ _).mono ?_
  rintro en w2 ⟨rfl, hw2⟩
  rw [show w2 = w1 from hw2]
  clear hw2
  have hbl' : blkB (s[q].toNat : Int) = false := by rw [← unhide HCC]; exact unhide HBL
  rw [hbl']
  clear hbl'
  have e0 : (BA []).toList.isEmpty = true := by rw [ByteArray.toList_eq]; rfl
  have hO : O = [] := by rw [unhide HO]; exact unhide HO0
  subst hO
  have v92 : ((s[q].toNat : Int) == 92) = false := beq_eq_false_iff_ne.2 (fun e => unhide HN92 (by rw [unhide HCC]; exact UInt8.toNat_inj.1 (show s[q].toNat = 92 by omega)))
  have hnl : ¬ (c = 92 ∧ R.head? = some 10) := fun h => unhide HN92 h.1
  have HNLN := hide hnl
  clear hnl
  have v35 : ((s[q].toNat : Int) == 35) = false := beq_eq_false_iff_ne.2 (fun e => unhide HN35 (by rw [unhide HCC]; exact UInt8.toNat_inj.1 (show s[q].toNat = 35 by omega)))
  have HST := hide (stepR_token (n := s.size) (unhide HCR) (unhide HBL) (unhide HNLN) (unhide HN35))
  have HTF := hide (tokenL_few (unhide H1).few (unhide H1).flt (unhide HCR) (unhide HBL))
  have HTK := hide ((unhide H1).kin.token (n := s.size) (unhide HCR) (unhide HBL))
  have HPN : Hid (s.size - (R.length + 1) = q) := hide (by omega)
  have HBw := hide (unhide H1).below
  have v10 : ((s[q].toNat : Int) == 10) = false := beq_eq_false_iff_ne.2 (fun e => unhide HN10 (by rw [unhide HCC]; exact UInt8.toNat_inj.1 (show s[q].toNat = 10 by omega)))
  have hrl : st.rest.length = s.size - q := by rw [← (unhide H1).rest, List.length_drop, data_len]
  have htok : tokenL s.size st = wordTok s.size st := by
    unfold tokenL
    rw [unhide HCR]
    simp only
    rw [if_neg (unhide HN10), if_pos (unhide HO0)]
  obtain ⟨X, hX⟩ : ∃ X, X = wordL (st.rest.length + 1) st.rest := ⟨_, rfl⟩
  have HWAT : Hid (WAt w s st u5 u6 q q X (st.rest.length + 1) w1) := hide ⟨Nat.le_refl _, Nat.le_of_lt hlt, (unhide H1).rws, unhide HBw, by rw [hX, (unhide H1).rest], by omega⟩
  have HTB : Hid (∀ e m, X = .err e m → T = { st with flt := e, blm := ((s.size - m.length : Nat) : Int) }) := hide (fun e m h => by
    have h1 : stepR s.size st = { st with flt := e, blm := ((s.size - m.length : Nat) : Int) } := by
      rw [unhide HST, htok]
      unfold wordTok
      rw [← hX, h]
    exact RAt.fail (unhide H1) (unhide HCR) h1 (wordL_err _ (hX.symm.trans h)))
  have HTO := hide htok
  have HX := hide hX
  have HRL := hide hrl
  clear htok hX hrl
  go_wp2_with fail
  rename_i Kk hKk
  refine wd_loop hs HWAT HTB ?_ ?_
  · rintro a w3 ⟨f, hP, rfl⟩
    go_wp2_with fail
    go_ret3
    exact hP
  · rintro a w3 ⟨f, ⟨p, h7, h16, HD⟩, rfl⟩
    rw [h7, h16]
    have HE : Hid (WEnd w s T st (f 5) (f 6) q p ((s.data.toList.drop q).take (p - q)) G w3) := hide (by
      have hd := unhide HD
      have h1 := unhide H1
      have hrl := unhide HRL
      have hlp : (s.data.toList.drop p).length = s.size - p := by rw [List.length_drop, data_len]
      have hqp : q < p := by
        have hm := unhide HMT
        have hw : wordL (R.length + 1 + 1) (c :: R) = .ok (s.data.toList.drop p) := by
          have := (unhide HX).symm.trans hd.eq
          rw [unhide HCR] at this
          exact this
        have := wordL_lt hw hm
        have h3 := hd.ple
        omega
      have hple := hd.ple
      have hst : stepR s.size st = wordTok s.size st := by rw [unhide HST, unhide HTO]
      refine ⟨⟨hd.rws, h1.flt, h1.blm, h1.rest, h1.le, h1.few, h1.kin, h1.fin, h1.fuel, hd.below⟩, ⟨c, R, unhide HCR⟩, hqp, hd.ple, ?_, ?_, ?_, ?_, ?_⟩
      · have := extract_take s q (p - q)
        rwa [show q + (p - q) = p by omega] at this
      · rw [List.length_take, List.length_drop, data_len]
        omega
      · rw [hst]
        unfold wordTok
        rw [← unhide HX, hd.eq]
        simp only
        rw [hlp, hrl, show s.size - (s.size - q) = q by omega, show s.size - q - (s.size - p) = p - q by omega, h1.rest]
      · rw [unhide HST]
        exact (unhide HTF).1
      · rw [unhide HST]
        exact unhide HTK)
    refine (show Kk _ _ from hKk _ _ ?_)
    exact wd_tail hs HE

end Go.Proofs.YtlmpdfeidjnmnaaDoor

/- The document's 'Lex': a Word's round. -/
namespace Go.Proofs.YtlmpdfeidjnmnaaDoor
open Go.RowKit

set_option maxRecDepth 1000000 in
set_option maxHeartbeats 40000000 in
theorem rl_word_e {s : ByteArray} {w wr : World} {T st : LS} {q G : Nat} {c : UInt8} {R : List UInt8} {K : Act → World → Prop} {u2 u3 u4 u5 u6 u8 u9 u10 u11 u12 u13 u14 u15 u16 u17 u18 u19 u23 u24 u25 u26 u27 u28 u29 u30 u31 u32 u33 u34 u35 u36 u37 u38 u39 u40 u41 u42 u43 u44 u45 u46 u47 u48 u49 u50 u51 u52 u53 u54 u55 u56 u57 u58 u59 u60 u61 u62 u63 u64 u65 u66 u67 u68 u69 u70 u71 u72 u73 u74 u75 u76 u77 u78 u79 u80 u81 u82 u83 u84 u85 u86 u87 u88 u89 u90 u91 u92 u93 u94 u95 u96 u97 u98 u99 u100 u101 u102 u103 u104 u105 u106 u107 u108 u109 u110 u111 u112 u113 u114 u115 u116 u117 u118 u119 u120 u121 u122 u123 u124 u125 u126 u127 u128 u129 u130 u131 u132 u133 u134 u135 u136 u137 u138 u139 u140 u141 u142 u143 u144 u145 u146 u147 u148 u149 u150 u151 u152 u153 u154 u155 u156 u157 u158 u159 u160 u161 u162 u163 u164 u165 u166 u167 u168 u169 u170 u171 u172 u173 u174 u175 u176 u177 u178 u179 u180 u181 u182 u183 u184 u185 u186 u187 u188 u189 u190 u191 u192 u193 u194 u195 u196 u197 u198 u199 u200 u201 u202 u203 u204 u205 u206 u207 u208 u209 u210 u211 u212 u213 u214 u215 u216 u217 u218 u219 u220 u221 u222 u223 u224 u225 u226 u227 u228 : Value} (hs : s.size ≤ 100000) (hlt : q < s.size) (HCC : Hid (c = s[q])) (HRR : Hid (R = s.data.toList.drop (q + 1))) (HCR : Hid (st.rest = c :: R)) (HR : Hid (RAt w s T wr u5 u6 q st (G + 1))) (HBL : Hid (blkB (c.toNat : Int) = false)) (HN35 : Hid (c ≠ 35)) (HN10 : Hid (c ≠ 10)) (HO0 : Hid (opL (c :: R) = [])) (HMT : Hid (metB (c.toNat : Int) = false)) (H92 : Hid (c = 92)) (HQE : ¬ q + 1 < s.size) :
    Code.wp Tryd.prog lexBody (Exit.then (fun a' w'' => WI w s T a' w'' ∧ Wmu s a' < s.size - q) (Exit.inBlock 0 (Exit.then K (bodyPost Tryd.prog Tryd.f13 (RPost w T))))) ⟨#[.string s, undef, u2, u3, u4, u5, u6, .int .i64 (q : Int), u8, u9, u10, u11, u12, u13, u14, u15, u16, u17, u18, u19, .string s, .int .i64 (s.size : Int), .bool false, u23, u24, u25, u26, u27, u28, u29, u30, u31, u32, u33, u34, u35, u36, u37, u38, u39, u40, u41, u42, u43, u44, u45, u46, u47, u48, u49, u50, u51, u52, u53, u54, u55, u56, u57, u58, u59, u60, u61, u62, u63, u64, u65, u66, u67, u68, u69, u70, u71, u72, u73, u74, u75, u76, u77, u78, u79, u80, u81, u82, u83, u84, u85, u86, u87, u88, u89, u90, u91, u92, u93, u94, u95, u96, u97, u98, u99, u100, u101, u102, u103, u104, u105, u106, u107, u108, u109, u110, u111, u112, u113, u114, u115, u116, u117, u118, u119, u120, u121, u122, u123, u124, u125, u126, u127, u128, u129, u130, u131, u132, u133, u134, u135, u136, u137, u138, u139, u140, u141, u142, u143, u144, u145, u146, u147, u148, u149, u150, u151, u152, u153, u154, u155, u156, u157, u158, u159, u160, u161, u162, u163, u164, u165, u166, u167, u168, u169, u170, u171, u172, u173, u174, u175, u176, u177, u178, u179, u180, u181, u182, u183, u184, u185, u186, u187, u188, u189, u190, u191, u192, u193, u194, u195, u196, u197, u198, u199, u200, u201, u202, u203, u204, u205, u206, u207, u208, u209, u210, u211, u212, u213, u214, u215, u216, u217, u218, u219, u220, u221, u222, u223, u224, u225, u226, u227, u228, undef, undef, undef, undef, undef, undef, undef, undef, undef, undef, undef, undef, undef], []⟩ wr := by
  conv => arg 2; whnf
  have hlt' : (q : Int) < (s.size : Int) := by omega
  have hq0 : (0 : Int) ≤ (q : Int) := by omega
  obtain ⟨q1, hq1⟩ : ∃ y, y = q + 1 := ⟨_, rfl⟩
  rw [← hq1] at HRR
  have hwq : IntKind.i64.wrap ((q : Int) + 1) = (q1 : Int) := by rw [IntKind.wrap_i64]; omega
  have hq1s : q < q1 ∧ q1 ≤ s.size ∧ q1 ≤ q + 1 := by omega
  have htl : st.toks.length ≤ s.size := (unhide HR).few.toks
  have hwl : st.wait.length ≤ s.size := by have := (unhide HR).few.wait; omega
  have hRl : R.length = s.size - q1 := by rw [unhide HRR, List.length_drop, data_len]
  have HQ1 := hide hq1
  clear hq1
  obtain ⟨O, hO⟩ : ∃ O, O = opL (c :: R) := ⟨_, rfl⟩
  have HOP : Hid (Calls Tryd.prog 23 #[.string s, .int .i64 (q : Int)] wr fun e w' => e = .returned (.string (BA O)) ∧ Below wr.heap.size wr w') := hide (by
    have := rop_any s q wr hs (Nat.le_of_lt hlt)
    rwa [(unhide HR).rest, unhide HCR, ← hO] at this)
  have HO := hide hO
  clear hO
  go_wp2_with fail
  refine (unhide HOP).mono ?_
  rintro en w1 ⟨rfl, b1⟩
  have H1 := hide ((unhide HR).keep b1)
  clear b1 HOP HR
  go_wp2_with fail
  refine (rblank_any _ _).mono ?_
  rintro en w2 ⟨rfl, hw2⟩
  rw [show w2 = w1 from hw2]
  clear hw2
  have hbl' : blkB (s[q].toNat : Int) = false := by rw [← unhide HCC]; exact unhide HBL
  rw [hbl']
  clear hbl'
  have e0 : (BA []).toList.isEmpty = true := by rw [ByteArray.toList_eq]; rfl
  have hO : O = [] := by rw [unhide HO]; exact unhide HO0
  subst hO
  have v92 : ((s[q].toNat : Int) == 92) = true := by rw [← unhide HCC, unhide H92]; rfl
  have hq1l' : ¬ (q1 : Int) < (s.size : Int) := by have := unhide HQ1; omega
  have HNLN : Hid (¬ (c = 92 ∧ R.head? = some 10)) := hide (fun h => by have h2 := h.2; rw [unhide HRR, drop_nil (by have := unhide HQ1; omega)] at h2; cases h2)
  have v35 : ((s[q].toNat : Int) == 35) = false := beq_eq_false_iff_ne.2 (fun e => unhide HN35 (by rw [unhide HCC]; exact UInt8.toNat_inj.1 (show s[q].toNat = 35 by omega)))
  have HST := hide (stepR_token (n := s.size) (unhide HCR) (unhide HBL) (unhide HNLN) (unhide HN35))
  have HTF := hide (tokenL_few (unhide H1).few (unhide H1).flt (unhide HCR) (unhide HBL))
  have HTK := hide ((unhide H1).kin.token (n := s.size) (unhide HCR) (unhide HBL))
  have HPN : Hid (s.size - (R.length + 1) = q) := hide (by omega)
  have HBw := hide (unhide H1).below
  have v10 : ((s[q].toNat : Int) == 10) = false := beq_eq_false_iff_ne.2 (fun e => unhide HN10 (by rw [unhide HCC]; exact UInt8.toNat_inj.1 (show s[q].toNat = 10 by omega)))
  have hrl : st.rest.length = s.size - q := by rw [← (unhide H1).rest, List.length_drop, data_len]
  have htok : tokenL s.size st = wordTok s.size st := by
    unfold tokenL
    rw [unhide HCR]
    simp only
    rw [if_neg (unhide HN10), if_pos (unhide HO0)]
  obtain ⟨X, hX⟩ : ∃ X, X = wordL (st.rest.length + 1) st.rest := ⟨_, rfl⟩
  have HWAT : Hid (WAt w s st u5 u6 q q X (st.rest.length + 1) w1) := hide ⟨Nat.le_refl _, Nat.le_of_lt hlt, (unhide H1).rws, unhide HBw, by rw [hX, (unhide H1).rest], by omega⟩
  have HTB : Hid (∀ e m, X = .err e m → T = { st with flt := e, blm := ((s.size - m.length : Nat) : Int) }) := hide (fun e m h => by
    have h1 : stepR s.size st = { st with flt := e, blm := ((s.size - m.length : Nat) : Int) } := by
      rw [unhide HST, htok]
      unfold wordTok
      rw [← hX, h]
    exact RAt.fail (unhide H1) (unhide HCR) h1 (wordL_err _ (hX.symm.trans h)))
  have HTO := hide htok
  have HX := hide hX
  have HRL := hide hrl
  clear htok hX hrl
  go_wp2_with fail
  rename_i Kk hKk
  refine wd_loop hs HWAT HTB ?_ ?_
  · rintro a w3 ⟨f, hP, rfl⟩
    go_wp2_with fail
    go_ret3
    exact hP
  · rintro a w3 ⟨f, ⟨p, h7, h16, HD⟩, rfl⟩
    rw [h7, h16]
    have HE : Hid (WEnd w s T st (f 5) (f 6) q p ((s.data.toList.drop q).take (p - q)) G w3) := hide (by
      have hd := unhide HD
      have h1 := unhide H1
      have hrl := unhide HRL
      have hlp : (s.data.toList.drop p).length = s.size - p := by rw [List.length_drop, data_len]
      have hqp : q < p := by
        have hm := unhide HMT
        have hw : wordL (R.length + 1 + 1) (c :: R) = .ok (s.data.toList.drop p) := by
          have := (unhide HX).symm.trans hd.eq
          rw [unhide HCR] at this
          exact this
        have := wordL_lt hw hm
        have h3 := hd.ple
        omega
      have hple := hd.ple
      have hst : stepR s.size st = wordTok s.size st := by rw [unhide HST, unhide HTO]
      refine ⟨⟨hd.rws, h1.flt, h1.blm, h1.rest, h1.le, h1.few, h1.kin, h1.fin, h1.fuel, hd.below⟩, ⟨c, R, unhide HCR⟩, hqp, hd.ple, ?_, ?_, ?_, ?_, ?_⟩
      · have := extract_take s q (p - q)
        rwa [show q + (p - q) = p by omega] at this
      · rw [List.length_take, List.length_drop, data_len]
        omega
      · rw [hst]
        unfold wordTok
        rw [← unhide HX, hd.eq]
        simp only
        rw [hlp, hrl, show s.size - (s.size - q) = q by omega, show s.size - q - (s.size - p) = p - q by omega, h1.rest]
      · rw [unhide HST]
        exact (unhide HTF).1
      · rw [unhide HST]
        exact unhide HTK)
    refine (show Kk _ _ from hKk _ _ ?_)
    exact wd_tail hs HE

end Go.Proofs.YtlmpdfeidjnmnaaDoor

/- The document's 'Lex': a Word's round. -/
namespace Go.Proofs.YtlmpdfeidjnmnaaDoor
open Go.RowKit

set_option maxRecDepth 1000000 in
set_option maxHeartbeats 40000000 in
theorem rl_word_b {s : ByteArray} {w wr : World} {T st : LS} {q G : Nat} {c : UInt8} {R : List UInt8} {K : Act → World → Prop} {u2 u3 u4 u5 u6 u8 u9 u10 u11 u12 u13 u14 u15 u16 u17 u18 u19 u23 u24 u25 u26 u27 u28 u29 u30 u31 u32 u33 u34 u35 u36 u37 u38 u39 u40 u41 u42 u43 u44 u45 u46 u47 u48 u49 u50 u51 u52 u53 u54 u55 u56 u57 u58 u59 u60 u61 u62 u63 u64 u65 u66 u67 u68 u69 u70 u71 u72 u73 u74 u75 u76 u77 u78 u79 u80 u81 u82 u83 u84 u85 u86 u87 u88 u89 u90 u91 u92 u93 u94 u95 u96 u97 u98 u99 u100 u101 u102 u103 u104 u105 u106 u107 u108 u109 u110 u111 u112 u113 u114 u115 u116 u117 u118 u119 u120 u121 u122 u123 u124 u125 u126 u127 u128 u129 u130 u131 u132 u133 u134 u135 u136 u137 u138 u139 u140 u141 u142 u143 u144 u145 u146 u147 u148 u149 u150 u151 u152 u153 u154 u155 u156 u157 u158 u159 u160 u161 u162 u163 u164 u165 u166 u167 u168 u169 u170 u171 u172 u173 u174 u175 u176 u177 u178 u179 u180 u181 u182 u183 u184 u185 u186 u187 u188 u189 u190 u191 u192 u193 u194 u195 u196 u197 u198 u199 u200 u201 u202 u203 u204 u205 u206 u207 u208 u209 u210 u211 u212 u213 u214 u215 u216 u217 u218 u219 u220 u221 u222 u223 u224 u225 u226 u227 u228 : Value} (hs : s.size ≤ 100000) (hlt : q < s.size) (HCC : Hid (c = s[q])) (HRR : Hid (R = s.data.toList.drop (q + 1))) (HCR : Hid (st.rest = c :: R)) (HR : Hid (RAt w s T wr u5 u6 q st (G + 1))) (HBL : Hid (blkB (c.toNat : Int) = false)) (HN35 : Hid (c ≠ 35)) (HN10 : Hid (c ≠ 10)) (HO0 : Hid (opL (c :: R) = [])) (HMT : Hid (metB (c.toNat : Int) = false)) (H92 : Hid (c = 92)) (HQE : q + 1 < s.size) (HNL : Hid (¬ (c = 92 ∧ R.head? = some 10))) :
    Code.wp Tryd.prog lexBody (Exit.then (fun a' w'' => WI w s T a' w'' ∧ Wmu s a' < s.size - q) (Exit.inBlock 0 (Exit.then K (bodyPost Tryd.prog Tryd.f13 (RPost w T))))) ⟨#[.string s, undef, u2, u3, u4, u5, u6, .int .i64 (q : Int), u8, u9, u10, u11, u12, u13, u14, u15, u16, u17, u18, u19, .string s, .int .i64 (s.size : Int), .bool false, u23, u24, u25, u26, u27, u28, u29, u30, u31, u32, u33, u34, u35, u36, u37, u38, u39, u40, u41, u42, u43, u44, u45, u46, u47, u48, u49, u50, u51, u52, u53, u54, u55, u56, u57, u58, u59, u60, u61, u62, u63, u64, u65, u66, u67, u68, u69, u70, u71, u72, u73, u74, u75, u76, u77, u78, u79, u80, u81, u82, u83, u84, u85, u86, u87, u88, u89, u90, u91, u92, u93, u94, u95, u96, u97, u98, u99, u100, u101, u102, u103, u104, u105, u106, u107, u108, u109, u110, u111, u112, u113, u114, u115, u116, u117, u118, u119, u120, u121, u122, u123, u124, u125, u126, u127, u128, u129, u130, u131, u132, u133, u134, u135, u136, u137, u138, u139, u140, u141, u142, u143, u144, u145, u146, u147, u148, u149, u150, u151, u152, u153, u154, u155, u156, u157, u158, u159, u160, u161, u162, u163, u164, u165, u166, u167, u168, u169, u170, u171, u172, u173, u174, u175, u176, u177, u178, u179, u180, u181, u182, u183, u184, u185, u186, u187, u188, u189, u190, u191, u192, u193, u194, u195, u196, u197, u198, u199, u200, u201, u202, u203, u204, u205, u206, u207, u208, u209, u210, u211, u212, u213, u214, u215, u216, u217, u218, u219, u220, u221, u222, u223, u224, u225, u226, u227, u228, undef, undef, undef, undef, undef, undef, undef, undef, undef, undef, undef, undef, undef], []⟩ wr := by
  conv => arg 2; whnf
  have hlt' : (q : Int) < (s.size : Int) := by omega
  have hq0 : (0 : Int) ≤ (q : Int) := by omega
  obtain ⟨q1, hq1⟩ : ∃ y, y = q + 1 := ⟨_, rfl⟩
  rw [← hq1] at HRR
  have hwq : IntKind.i64.wrap ((q : Int) + 1) = (q1 : Int) := by rw [IntKind.wrap_i64]; omega
  have hq1s : q < q1 ∧ q1 ≤ s.size ∧ q1 ≤ q + 1 := by omega
  have htl : st.toks.length ≤ s.size := (unhide HR).few.toks
  have hwl : st.wait.length ≤ s.size := by have := (unhide HR).few.wait; omega
  have hRl : R.length = s.size - q1 := by rw [unhide HRR, List.length_drop, data_len]
  have HQ1 := hide hq1
  clear hq1
  obtain ⟨O, hO⟩ : ∃ O, O = opL (c :: R) := ⟨_, rfl⟩
  have HOP : Hid (Calls Tryd.prog 23 #[.string s, .int .i64 (q : Int)] wr fun e w' => e = .returned (.string (BA O)) ∧ Below wr.heap.size wr w') := hide (by
    have := rop_any s q wr hs (Nat.le_of_lt hlt)
    rwa [(unhide HR).rest, unhide HCR, ← hO] at this)
  have HO := hide hO
  clear hO
  go_wp2_with fail
  refine (unhide HOP).mono ?_
  rintro en w1 ⟨rfl, b1⟩
  have H1 := hide ((unhide HR).keep b1)
  clear b1 HOP HR
  go_wp2_with fail
  refine (rblank_any _ _).mono ?_
  rintro en w2 ⟨rfl, hw2⟩
  rw [show w2 = w1 from hw2]
  clear hw2
  have hbl' : blkB (s[q].toNat : Int) = false := by rw [← unhide HCC]; exact unhide HBL
  rw [hbl']
  clear hbl'
  have e0 : (BA []).toList.isEmpty = true := by rw [ByteArray.toList_eq]; rfl
  have hO : O = [] := by rw [unhide HO]; exact unhide HO0
  subst hO
  have v92 : ((s[q].toNat : Int) == 92) = true := by rw [← unhide HCC, unhide H92]; rfl
  have hq1l : q1 < s.size := by have := unhide HQ1; omega
  have hq1l' : (q1 : Int) < (s.size : Int) := by omega
  have hq10 : (0 : Int) ≤ (q1 : Int) := by omega
  have hhead : R.head? = some s[q1] := by rw [unhide HRR, drop_at hq1l]; rfl
  have v10' : ((s[q1].toNat : Int) == 10) = false := beq_eq_false_iff_ne.2 (fun e => unhide HNL ⟨unhide H92, by rw [hhead]; exact congrArg some (UInt8.toNat_inj.1 (show s[q1].toNat = 10 by omega))⟩)
  have HNLN := HNL
  clear hhead
  have v35 : ((s[q].toNat : Int) == 35) = false := beq_eq_false_iff_ne.2 (fun e => unhide HN35 (by rw [unhide HCC]; exact UInt8.toNat_inj.1 (show s[q].toNat = 35 by omega)))
  have HST := hide (stepR_token (n := s.size) (unhide HCR) (unhide HBL) (unhide HNLN) (unhide HN35))
  have HTF := hide (tokenL_few (unhide H1).few (unhide H1).flt (unhide HCR) (unhide HBL))
  have HTK := hide ((unhide H1).kin.token (n := s.size) (unhide HCR) (unhide HBL))
  have HPN : Hid (s.size - (R.length + 1) = q) := hide (by omega)
  have HBw := hide (unhide H1).below
  have v10 : ((s[q].toNat : Int) == 10) = false := beq_eq_false_iff_ne.2 (fun e => unhide HN10 (by rw [unhide HCC]; exact UInt8.toNat_inj.1 (show s[q].toNat = 10 by omega)))
  have hrl : st.rest.length = s.size - q := by rw [← (unhide H1).rest, List.length_drop, data_len]
  have htok : tokenL s.size st = wordTok s.size st := by
    unfold tokenL
    rw [unhide HCR]
    simp only
    rw [if_neg (unhide HN10), if_pos (unhide HO0)]
  obtain ⟨X, hX⟩ : ∃ X, X = wordL (st.rest.length + 1) st.rest := ⟨_, rfl⟩
  have HWAT : Hid (WAt w s st u5 u6 q q X (st.rest.length + 1) w1) := hide ⟨Nat.le_refl _, Nat.le_of_lt hlt, (unhide H1).rws, unhide HBw, by rw [hX, (unhide H1).rest], by omega⟩
  have HTB : Hid (∀ e m, X = .err e m → T = { st with flt := e, blm := ((s.size - m.length : Nat) : Int) }) := hide (fun e m h => by
    have h1 : stepR s.size st = { st with flt := e, blm := ((s.size - m.length : Nat) : Int) } := by
      rw [unhide HST, htok]
      unfold wordTok
      rw [← hX, h]
    exact RAt.fail (unhide H1) (unhide HCR) h1 (wordL_err _ (hX.symm.trans h)))
  have HTO := hide htok
  have HX := hide hX
  have HRL := hide hrl
  clear htok hX hrl
  go_wp2_with fail
  rename_i Kk hKk
  refine wd_loop hs HWAT HTB ?_ ?_
  · rintro a w3 ⟨f, hP, rfl⟩
    go_wp2_with fail
    go_ret3
    exact hP
  · rintro a w3 ⟨f, ⟨p, h7, h16, HD⟩, rfl⟩
    rw [h7, h16]
    have HE : Hid (WEnd w s T st (f 5) (f 6) q p ((s.data.toList.drop q).take (p - q)) G w3) := hide (by
      have hd := unhide HD
      have h1 := unhide H1
      have hrl := unhide HRL
      have hlp : (s.data.toList.drop p).length = s.size - p := by rw [List.length_drop, data_len]
      have hqp : q < p := by
        have hm := unhide HMT
        have hw : wordL (R.length + 1 + 1) (c :: R) = .ok (s.data.toList.drop p) := by
          have := (unhide HX).symm.trans hd.eq
          rw [unhide HCR] at this
          exact this
        have := wordL_lt hw hm
        have h3 := hd.ple
        omega
      have hple := hd.ple
      have hst : stepR s.size st = wordTok s.size st := by rw [unhide HST, unhide HTO]
      refine ⟨⟨hd.rws, h1.flt, h1.blm, h1.rest, h1.le, h1.few, h1.kin, h1.fin, h1.fuel, hd.below⟩, ⟨c, R, unhide HCR⟩, hqp, hd.ple, ?_, ?_, ?_, ?_, ?_⟩
      · have := extract_take s q (p - q)
        rwa [show q + (p - q) = p by omega] at this
      · rw [List.length_take, List.length_drop, data_len]
        omega
      · rw [hst]
        unfold wordTok
        rw [← unhide HX, hd.eq]
        simp only
        rw [hlp, hrl, show s.size - (s.size - q) = q by omega, show s.size - q - (s.size - p) = p - q by omega, h1.rest]
      · rw [unhide HST]
        exact (unhide HTF).1
      · rw [unhide HST]
        exact unhide HTK)
    refine (show Kk _ _ from hKk _ _ ?_)
    exact wd_tail hs HE

end Go.Proofs.YtlmpdfeidjnmnaaDoor

/- The document's 'Lex': its loop. -/
namespace Go.Proofs.YtlmpdfeidjnmnaaDoor
open Go.RowKit

set_option maxRecDepth 1000000 in
set_option maxHeartbeats 40000000 in
theorem rl_exit {s : ByteArray} {w wr : World} {T st : LS} {q G : Nat} {K : Act → World → Prop} {u2 u3 u4 u5 u6 u8 u9 u10 u11 u12 u13 u14 u15 u16 u17 u18 u19 u23 u24 u25 u26 u27 u28 u29 u30 u31 u32 u33 u34 u35 u36 u37 u38 u39 u40 u41 u42 u43 u44 u45 u46 u47 u48 u49 u50 u51 u52 u53 u54 u55 u56 u57 u58 u59 u60 u61 u62 u63 u64 u65 u66 u67 u68 u69 u70 u71 u72 u73 u74 u75 u76 u77 u78 u79 u80 u81 u82 u83 u84 u85 u86 u87 u88 u89 u90 u91 u92 u93 u94 u95 u96 u97 u98 u99 u100 u101 u102 u103 u104 u105 u106 u107 u108 u109 u110 u111 u112 u113 u114 u115 u116 u117 u118 u119 u120 u121 u122 u123 u124 u125 u126 u127 u128 u129 u130 u131 u132 u133 u134 u135 u136 u137 u138 u139 u140 u141 u142 u143 u144 u145 u146 u147 u148 u149 u150 u151 u152 u153 u154 u155 u156 u157 u158 u159 u160 u161 u162 u163 u164 u165 u166 u167 u168 u169 u170 u171 u172 u173 u174 u175 u176 u177 u178 u179 u180 u181 u182 u183 u184 u185 u186 u187 u188 u189 u190 u191 u192 u193 u194 u195 u196 u197 u198 u199 u200 u201 u202 u203 u204 u205 u206 u207 u208 u209 u210 u211 u212 u213 u214 u215 u216 u217 u218 u219 u220 u221 u222 u223 u224 u225 u226 u227 u228 : Value} (hlt : ¬ q < s.size) (HR : Hid (RAt w s T wr u5 u6 q st G)) (hK : ∀ a' w'', WX w s T a' w'' → K a' w'') :
    Code.wp Tryd.prog lexBody (Exit.then (fun a' w'' => WI w s T a' w'' ∧ Wmu s a' < s.size - q) (Exit.inBlock 0 (Exit.then K (bodyPost Tryd.prog Tryd.f13 (RPost w T))))) ⟨#[.string s, undef, u2, u3, u4, u5, u6, .int .i64 (q : Int), u8, u9, u10, u11, u12, u13, u14, u15, u16, u17, u18, u19, .string s, .int .i64 (s.size : Int), .bool false, u23, u24, u25, u26, u27, u28, u29, u30, u31, u32, u33, u34, u35, u36, u37, u38, u39, u40, u41, u42, u43, u44, u45, u46, u47, u48, u49, u50, u51, u52, u53, u54, u55, u56, u57, u58, u59, u60, u61, u62, u63, u64, u65, u66, u67, u68, u69, u70, u71, u72, u73, u74, u75, u76, u77, u78, u79, u80, u81, u82, u83, u84, u85, u86, u87, u88, u89, u90, u91, u92, u93, u94, u95, u96, u97, u98, u99, u100, u101, u102, u103, u104, u105, u106, u107, u108, u109, u110, u111, u112, u113, u114, u115, u116, u117, u118, u119, u120, u121, u122, u123, u124, u125, u126, u127, u128, u129, u130, u131, u132, u133, u134, u135, u136, u137, u138, u139, u140, u141, u142, u143, u144, u145, u146, u147, u148, u149, u150, u151, u152, u153, u154, u155, u156, u157, u158, u159, u160, u161, u162, u163, u164, u165, u166, u167, u168, u169, u170, u171, u172, u173, u174, u175, u176, u177, u178, u179, u180, u181, u182, u183, u184, u185, u186, u187, u188, u189, u190, u191, u192, u193, u194, u195, u196, u197, u198, u199, u200, u201, u202, u203, u204, u205, u206, u207, u208, u209, u210, u211, u212, u213, u214, u215, u216, u217, u218, u219, u220, u221, u222, u223, u224, u225, u226, u227, u228, undef, undef, undef, undef, undef, undef, undef, undef, undef, undef, undef, undef, undef], []⟩ wr := by
  conv => arg 2; whnf
  have hlt' : ¬ (q : Int) < (s.size : Int) := by omega
  have HO : Hid (Out3 w T u5 u6 wr) := hide (by
    have h := unhide HR
    have hr : st.rest = [] := by rw [← h.rest]; exact drop_nil (by omega)
    have hT : T = st := by rw [← h.fin]; exact loopR_end hr
    rw [hT]
    exact ⟨h.rws, h.flt, h.blm, h.kin, h.below⟩)
  clear HR
  go_wp2_with fail
  exact WX_intro HO

set_option maxRecDepth 1000000 in
set_option maxHeartbeats 4000000 in
theorem rl_round {s : ByteArray} {w : World} {T : LS} {K : Act → World → Prop} (hs : s.size ≤ 100000) (hK : ∀ a' w'', WX w s T a' w'' → K a' w'') (a : Act) (wr : World) (hI : WI w s T a wr) :
    Code.wp Tryd.prog lexBody (Exit.then (fun a' w'' => WI w s T a' w'' ∧ Wmu s a' < Wmu s a) (Exit.inBlock 0 (Exit.then K (bodyPost Tryd.prog Tryd.f13 (RPost w T))))) a wr := by
  obtain ⟨M, hM⟩ : ∃ M, M = Wmu s a := ⟨_, rfl⟩
  rw [← hM]
  obtain ⟨f, ⟨q, st, G, h7, HR⟩, rfl⟩ := hI
  have hM' : M = s.size - q := by
    rw [hM]
    show s.size - (intOf (f 7)).toNat = _
    rw [h7]
    rfl
  clear hM
  subst hM'
  rw [h7]
  by_cases hlt : q < s.size
  · obtain ⟨c, hc⟩ : ∃ c, c = s[q] := ⟨_, rfl⟩
    obtain ⟨R, hR⟩ : ∃ R, R = s.data.toList.drop (q + 1) := ⟨_, rfl⟩
    have hcR : st.rest = c :: R := by rw [← (unhide HR).rest, drop_at hlt, hc, hR]
    obtain ⟨G, rfl⟩ : ∃ g, G = g + 1 := ⟨G - 1, by have := (unhide HR).fuel; omega⟩
    rcases Bool.eq_false_or_eq_true (blkB (c.toNat : Int)) with hbl | hbl
    · exact rl_blank hs hlt (hide hc) (hide hR) (hide hcR) HR (hide hbl)
    by_cases hnl : c = 92 ∧ R.head? = some 10
    · exact rl_join hs hlt (hide hc) (hide hR) (hide hcR) HR (hide hbl) (hide hnl)
    by_cases h35 : c = 35
    · exact rl_comm hs hlt (hide hc) (hide hR) (hide hcR) HR (hide hbl) (hide h35)
    by_cases h10 : c = 10
    · exact rl_newl hs hlt (hide hc) (hide hR) (hide hcR) HR (hide hbl) (hide h10)
    by_cases hO : opL (c :: R) = []
    · have hm := opL_meta hO hbl h10
      by_cases h92 : c = 92
      · by_cases hq : q + 1 < s.size
        · exact rl_word_b hs hlt (hide hc) (hide hR) (hide hcR) HR (hide hbl) (hide h35) (hide h10) (hide hO) (hide hm) (hide h92) hq (hide hnl)
        · exact rl_word_e hs hlt (hide hc) (hide hR) (hide hcR) HR (hide hbl) (hide h35) (hide h10) (hide hO) (hide hm) (hide h92) hq
      · exact rl_word_n hs hlt (hide hc) (hide hR) (hide hcR) HR (hide hbl) (hide h35) (hide h10) (hide hO) (hide hm) (hide h92)
    · exact rl_oper hs hlt (hide hc) (hide hR) (hide hcR) HR (hide hbl) (hide hO)
  · exact rl_exit hlt HR hK
set_option maxRecDepth 1000000 in
set_option maxHeartbeats 4000000 in
theorem rl_loop {s : ByteArray} {w wr : World} {T : LS} {K : Act → World → Prop} {u2 u3 u4 u5 u6 u8 u9 u10 u11 u12 u13 u14 u15 u16 u17 u18 u19 u23 u24 u25 u26 u27 u28 u29 u30 u31 u32 u33 u34 u35 u36 u37 u38 u39 u40 u41 u42 u43 u44 u45 u46 u47 u48 u49 u50 u51 u52 u53 u54 u55 u56 u57 u58 u59 u60 u61 u62 u63 u64 u65 u66 u67 u68 u69 u70 u71 u72 u73 u74 u75 u76 u77 u78 u79 u80 u81 u82 u83 u84 u85 u86 u87 u88 u89 u90 u91 u92 u93 u94 u95 u96 u97 u98 u99 u100 u101 u102 u103 u104 u105 u106 u107 u108 u109 u110 u111 u112 u113 u114 u115 u116 u117 u118 u119 u120 u121 u122 u123 u124 u125 u126 u127 u128 u129 u130 u131 u132 u133 u134 u135 u136 u137 u138 u139 u140 u141 u142 u143 u144 u145 u146 u147 u148 u149 u150 u151 u152 u153 u154 u155 u156 u157 u158 u159 u160 u161 u162 u163 u164 u165 u166 u167 u168 u169 u170 u171 u172 u173 u174 u175 u176 u177 u178 u179 u180 u181 u182 u183 u184 u185 u186 u187 u188 u189 u190 u191 u192 u193 u194 u195 u196 u197 u198 u199 u200 u201 u202 u203 u204 u205 u206 u207 u208 u209 u210 u211 u212 u213 u214 u215 u216 u217 u218 u219 u220 u221 u222 u223 u224 u225 u226 u227 u228 u7 : Value} (hs : s.size ≤ 100000) (hrel : Rel3 w s T u5 u6 u7 wr) (hK : ∀ a' w'', WX w s T a' w'' → K a' w'') :
    Code.wp Tryd.prog (Code.loop lexBody) (Exit.inBlock 0 (Exit.then K (bodyPost Tryd.prog Tryd.f13 (RPost w T)))) ⟨#[.string s, undef, u2, u3, u4, u5, u6, u7, u8, u9, u10, u11, u12, u13, u14, u15, u16, u17, u18, u19, .string s, .int .i64 (s.size : Int), .bool false, u23, u24, u25, u26, u27, u28, u29, u30, u31, u32, u33, u34, u35, u36, u37, u38, u39, u40, u41, u42, u43, u44, u45, u46, u47, u48, u49, u50, u51, u52, u53, u54, u55, u56, u57, u58, u59, u60, u61, u62, u63, u64, u65, u66, u67, u68, u69, u70, u71, u72, u73, u74, u75, u76, u77, u78, u79, u80, u81, u82, u83, u84, u85, u86, u87, u88, u89, u90, u91, u92, u93, u94, u95, u96, u97, u98, u99, u100, u101, u102, u103, u104, u105, u106, u107, u108, u109, u110, u111, u112, u113, u114, u115, u116, u117, u118, u119, u120, u121, u122, u123, u124, u125, u126, u127, u128, u129, u130, u131, u132, u133, u134, u135, u136, u137, u138, u139, u140, u141, u142, u143, u144, u145, u146, u147, u148, u149, u150, u151, u152, u153, u154, u155, u156, u157, u158, u159, u160, u161, u162, u163, u164, u165, u166, u167, u168, u169, u170, u171, u172, u173, u174, u175, u176, u177, u178, u179, u180, u181, u182, u183, u184, u185, u186, u187, u188, u189, u190, u191, u192, u193, u194, u195, u196, u197, u198, u199, u200, u201, u202, u203, u204, u205, u206, u207, u208, u209, u210, u211, u212, u213, u214, u215, u216, u217, u218, u219, u220, u221, u222, u223, u224, u225, u226, u227, u228, undef, undef, undef, undef, undef, undef, undef, undef, undef, undef, undef, undef, undef], []⟩ wr := by
  exact wp_loop (WI w s T) (fun a _ => Wmu s a) (WI_intro hrel) (fun a wr hI => rl_round hs hK a wr hI)

end Go.Proofs.YtlmpdfeidjnmnaaDoor

/- The document's 'Lex' is what the pure lexer answers. -/
namespace Go.Proofs.YtlmpdfeidjnmnaaDoor
open Go.RowKit

set_option maxRecDepth 100000 in
set_option maxHeartbeats 40000000 in
theorem rlex_any (s : ByteArray) (w : World) (hs : s.size ≤ 100000) :
    Calls Tryd.prog 13 #[.string s] w fun e w' => ∃ v, e = .returned (.tuple #[v, .int .i64 (lexL s.data.toList).2.1, .int .i64 (lexL s.data.toList).2.2]) ∧ Below w.heap.size w w' ∧ TRow w' v (lexL s.data.toList).1 := by
  by_cases hbig : 4096 < s.size
  · have hL : lexL s.data.toList = ([], 0, 3) := by unfold lexL; rw [data_len, if_pos hbig]
    rw [hL]
    have hb' : (4096 : Int) < (s.size : Int) := by omega
    clear hL
    go_enter Tryd.func13, Tryd.ntmps13
    go_wp2
    go_ret3
    exact ⟨_, rfl, Below.refl _ _, ⟨none, 0, rfl, fun i t h => by simp at h⟩⟩
  have hbig' : ¬ (4096 : Int) < (s.size : Int) := by omega
  obtain ⟨T, hT⟩ : ∃ T, T = loopR s.size (s.size + 1) ⟨s.data.toList, [], [], 0, 0⟩ := ⟨_, rfl⟩
  have hfew0 : Few s.size ⟨s.data.toList, [], [], 0, 0⟩ := ⟨Nat.le_refl _, fun _ => by show 0 + s.data.toList.length ≤ _; rw [data_len]; omega, Nat.zero_le _⟩
  have HL : Hid (lexL s.data.toList = ((endS T).toks, (endS T).blm, (endS T).flt)) := hide (by
    unfold lexL
    rw [data_len, if_neg hbig, ← loopR_eq s.size (s.size + 1) (s.size + 1) _ hfew0 rfl (by show s.data.toList.length + 1 ≤ _; rw [data_len]; exact Nat.le_refl _) (by show s.data.toList.length + 1 ≤ _; rw [data_len]; exact Nat.le_refl _), ← hT]
    rfl)
  have HR0 : Hid (RAt w s T w (.slice none 0 0) (.slice none 0 0) 0 ⟨s.data.toList, [], [], 0, 0⟩ (s.size + 1)) := hide ⟨⟨World.ownsRow_nil _ _ _ _, World.ownsRow_nil _ _ _ _⟩, rfl, rfl, rfl, Nat.zero_le _, hfew0, ⟨fun u hu => by simp [kts] at hu, fun x hx => by simp at hx⟩, hT.symm, by show s.data.toList.length + 1 ≤ _; rw [data_len]; exact Nat.le_refl _, Below.refl _ _⟩
  rw [unhide HL]
  show Calls Tryd.prog _ _ _ (RPost w T)
  clear hT hfew0 hbig
  go_enter Tryd.func13, Tryd.ntmps13
  go_wp2_with fail
  rename_i Kk hKk
  refine rl_loop hs ⟨0, _, _, rfl, HR0⟩ ?_
  clear HR0
  rintro a w3 ⟨f, HO, rfl⟩
  have hrw := (unhide HO).1
  obtain ⟨n6, hn6⟩ : ∃ n, n = T.wait.length := ⟨_, rfl⟩
  have hwts := hrw.wts
  rw [← hn6] at hwts
  obtain ⟨ad6, cap6, he6, hsh6⟩ := wt_shape hwts hn6
  obtain ⟨n5, hn5⟩ : ∃ n, n = T.toks.length := ⟨_, rfl⟩
  have hout := hrw.out
  rw [← hn5] at hout
  obtain ⟨ad5, cap5, he5, hsh5⟩ := out_shape hout hn5
  rw [he5, he6] at HO
  refine hKk _ _ ?_
  rw [he5, he6]
  cases hw : T.wait with
  | nil =>
    have h0 : ¬ (0 : Int) < (n6 : Int) := by rw [hn6, hw]; simp
    have hend : endS T = T := by unfold endS; rw [hw]
    have HEN := hide hend
    clear hrw hwts hout hsh5 hsh6 he5 he6 hn5 hn6 hw hend hKk
    go_wp2_with fail
    go_ret3
    refine ⟨.slice ad5 n5 cap5, ?_, (unhide HO).2.2.2.2, ?_⟩
    · show Ending.returned (.tuple #[.slice ad5 n5 cap5, .int .i64 0, .int .i64 0]) = _
      rw [unhide HEN, (unhide HO).2.1, (unhide HO).2.2.1]
    · rw [unhide HEN]
      exact trow_any (unhide HO).1.out rfl
  | cons x ws =>
    have h0 : (0 : Int) < (n6 : Int) := by rw [hn6, hw, List.length_cons]; omega
    obtain ⟨ku, hku, _⟩ := (unhide HO).2.2.2.1.tabs x (by rw [hw]; simp)
    unfold kts at hku
    rw [List.getElem?_map] at hku
    obtain ⟨t, ht, _⟩ := Option.map_eq_some_iff.1 hku
    obtain ⟨g6, hg6, _, _, c60, _⟩ := hsh6 0 x (by rw [hw]; rfl)
    obtain ⟨g5, hg5, _, _, _, c5⟩ := hsh5 x.tok t ht
    have c52 : w3.cell? ⟨g5, x.tok * 5 + 2, none⟩ = some (.int .i64 t.pos) := c5 2 _ rfl (by decide)
    have c60' : w3.cell? ⟨g6, 0, none⟩ = some (.int .i64 (x.tok : Int)) := by simpa using c60
    have htl := (List.getElem?_eq_some_iff.1 ht).1
    have ht5 : (x.tok : Int) < (n5 : Int) := by omega
    have ht0 : (0 : Int) ≤ (x.tok : Int) := by omega
    have hend0 : endS T = T.fail 12 (T.posOf x.tok) := by
      unfold endS
      rw [hw]
    have hend : endS T = { T with flt := 12, blm := t.pos } := by
      rw [hend0]
      unfold LS.fail LS.posOf
      rw [if_pos (unhide HO).2.1, ht]
      rfl
    have HEN := hide hend
    rw [hg5, hg6] at HO ⊢
    clear hrw hwts hout hsh5 hsh6 he5 he6 hn5 hn6 hw hend hend0 hKk c5 c60 ht hku htl hg5 hg6
    go_wp2_with fail
    go_big_quiet (fail)
    go_wp2_with fail
    go_ret3
    refine ⟨.slice (some ⟨g5, 0, none⟩) n5 cap5, ?_, (unhide HO).2.2.2.2.trans ((below_drew _ _).mono (unhide HO).2.2.2.2.size), ?_⟩
    · show Ending.returned (.tuple #[.slice (some ⟨g5, 0, none⟩) n5 cap5, .int .i64 t.pos, .int .i64 12]) = _
      rw [unhide HEN]
    · rw [unhide HEN]
      exact trow_any ((unhide HO).1.keep (below_drew _ _)).out rfl

end Go.Proofs.YtlmpdfeidjnmnaaDoor

/- The law's 'plain' and the document's 'Same'. -/
namespace Go.Proofs.YtlmpdfeidjnmnaaDoor
open Go.RowKit

set_option maxRecDepth 100000 in
set_option maxHeartbeats 40000000 in
theorem same_any (v1 v2 : Value) (ts : List Tok) (w : World) (h1 : TRow w v1 ts) (h2 : TRow w v2 ts) (hl : ts.length ≤ 100000) : Calls Tryd.prog 14 #[v1, v2] w fun e w' => e = .returned (.bool true) ∧ Below w.heap.size w w' := by
  obtain ⟨ad1, cap1, rfl, hs1⟩ := h1.shape
  obtain ⟨ad2, cap2, rfl, hs2⟩ := h2.shape
  obtain ⟨n, hn⟩ : ∃ n, n = ts.length := ⟨_, rfl⟩
  rw [← hn]
  have HS1 := hide hs1
  have HS2 := hide hs2
  have hnl : n ≤ 100000 := by omega
  have HN := hide hn
  clear h1 h2 hs1 hs2 hn hl
  go_enter Tryd.func14, Tryd.ntmps14
  go_wp2_with fail
  go_loopw [5] (fun i wr => ∃ k : Nat, k ≤ n ∧ i = .int .i64 k ∧ Hid (Below w.heap.size w wr)) (fun i _ => n - (intOf i).toNat)
  case atStart => exact ⟨0, by omega, rfl, hide (Below.refl _ _)⟩
  case round =>
    obtain ⟨k, hk, rfl, HB⟩ := hrel
    by_cases hlt : k < n
    · have hkt : k < ts.length := by have := unhide HN; omega
      obtain ⟨t, ht⟩ : ∃ t, ts[k]? = some t := ⟨_, List.getElem?_eq_getElem hkt⟩
      obtain ⟨g1, rfl, hg1, hc1⟩ := unhide HS1 k t ht
      obtain ⟨g2, rfl, hg2, hc2⟩ := unhide HS2 k t ht
      have hw1 : ∀ j, wr.cell? ⟨g1, j, none⟩ = w.cell? ⟨g1, j, none⟩ := fun j => World.cell?_of_block ((unhide HB).block g1 hg1)
      have hw2 : ∀ j, wr.cell? ⟨g2, j, none⟩ = w.cell? ⟨g2, j, none⟩ := fun j => World.cell?_of_block ((unhide HB).block g2 hg2)
      have p0 : wr.cell? ⟨g1, k * 5, none⟩ = some (.int .i64 t.kind) := by rw [hw1, show k * 5 = 5 * k + 0 by omega]; exact hc1 0 _ rfl (by decide)
      have p1 : wr.cell? ⟨g1, k * 5 + 1, none⟩ = some (.string t.text) := by rw [hw1, show k * 5 + 1 = 5 * k + 1 by omega]; exact hc1 1 _ rfl (by decide)
      have p2 : wr.cell? ⟨g1, k * 5 + 2, none⟩ = some (.int .i64 t.pos) := by rw [hw1, show k * 5 + 2 = 5 * k + 2 by omega]; exact hc1 2 _ rfl (by decide)
      have p3 : wr.cell? ⟨g1, k * 5 + 3, none⟩ = some (.string t.body) := by rw [hw1, show k * 5 + 3 = 5 * k + 3 by omega]; exact hc1 3 _ rfl (by decide)
      have p4 : wr.cell? ⟨g1, k * 5 + 4, none⟩ = some (.bool t.raw) := by rw [hw1, show k * 5 + 4 = 5 * k + 4 by omega]; exact hc1 4 _ rfl (by decide)
      have q0 : wr.cell? ⟨g2, k * 5, none⟩ = some (.int .i64 t.kind) := by rw [hw2, show k * 5 = 5 * k + 0 by omega]; exact hc2 0 _ rfl (by decide)
      have q1 : wr.cell? ⟨g2, k * 5 + 1, none⟩ = some (.string t.text) := by rw [hw2, show k * 5 + 1 = 5 * k + 1 by omega]; exact hc2 1 _ rfl (by decide)
      have q2 : wr.cell? ⟨g2, k * 5 + 2, none⟩ = some (.int .i64 t.pos) := by rw [hw2, show k * 5 + 2 = 5 * k + 2 by omega]; exact hc2 2 _ rfl (by decide)
      have q3 : wr.cell? ⟨g2, k * 5 + 3, none⟩ = some (.string t.body) := by rw [hw2, show k * 5 + 3 = 5 * k + 3 by omega]; exact hc2 3 _ rfl (by decide)
      have q4 : wr.cell? ⟨g2, k * 5 + 4, none⟩ = some (.bool t.raw) := by rw [hw2, show k * 5 + 4 = 5 * k + 4 by omega]; exact hc2 4 _ rfl (by decide)
      have hlt1 : (k : Int) < (n : Int) := by omega
      have hk0 : (0 : Int) ≤ (k : Int) := by omega
      clear hkt ht hg1 hg2 hc1 hc2 hw1 hw2
      go_wp2_with fail
      go_quiet (fail)
      go_wp2
      go_roundw
      case rel => exact ⟨k + 1, by omega, by go_num, hide ((unhide HB).trans ((below_drew _ _).mono (unhide HB).size))⟩
      case measure => simp [intOf]; omega
    · have hlt1 : ¬ (k : Int) < (n : Int) := by omega
      go_wp2
      go_ret
      exact ⟨rfl, unhide HB⟩

theorem own_drew {w : World} {B n sz : Nat} {e : TypeId} {v : Value} {xs : List Value} (h : w.ownsRow B e sz v n xs) : w.drew.ownsRow B e sz v n xs :=
  own_grownS (w1 := w.drewN 1) h (grownS_of_below (S := fun _ => False) (below_drew w 1)) (fun _ _ e => e)
set_option maxRecDepth 100000 in
set_option maxHeartbeats 40000000 in
theorem plain_any (v : Value) (ts : List Tok) (w : World) (h : TRow w v ts) (hl : ts.length ≤ 100000) : Calls Tryd.prog 15 #[v] w fun e w' => ∃ v', e = .returned v' ∧ Below w.heap.size w w' ∧ TRow w' v' ts := by
  obtain ⟨iT, hiT, hzT0, hzT1, hzT2⟩ := info_of info_rtok
  obtain ⟨ad, cap, rfl, hsh⟩ := h.shape
  obtain ⟨n, hn⟩ : ∃ n, n = ts.length := ⟨_, rfl⟩
  rw [← hn]
  have hnl : n ≤ 100000 := by omega
  have HSH := hide hsh
  have HN := hide hn
  clear h hsh hn hl
  go_enter Tryd.func15, Tryd.ntmps15
  go_wp2_with fail
  go_loopw [3, 4] (fun v' i wr => ∃ k : Nat, i = .int .i64 (k : Int) ∧ k ≤ n ∧ Hid (wr.ownsRow w.heap.size 65 5 v' k (flatT (ts.take k)) ∧ Below w.heap.size w wr)) (fun _ i _ => n - (intOf i).toNat)
  case atStart => exact ⟨0, rfl, Nat.zero_le _, hide ⟨World.ownsRow_nil _ _ _ _, Below.refl _ _⟩⟩
  case round =>
    obtain ⟨k, rfl, hk, HO⟩ := hrel
    by_cases hlt : k < n
    · have hkt : k < ts.length := by have := unhide HN; omega
      obtain ⟨t, ht⟩ : ∃ t, ts[k]? = some t := ⟨_, List.getElem?_eq_getElem hkt⟩
      obtain ⟨g, rfl, hg, hc⟩ := unhide HSH k t ht
      have hw1 : ∀ j, wr.cell? ⟨g, j, none⟩ = w.cell? ⟨g, j, none⟩ := fun j => World.cell?_of_block ((unhide HO).2.block g hg)
      have HZ : Hid (wr.cell? ⟨g, k * 5, none⟩ = some (.int .i64 t.kind) ∧ wr.cell? ⟨g, k * 5 + 1, none⟩ = some (.string t.text) ∧ wr.cell? ⟨g, k * 5 + 2, none⟩ = some (.int .i64 t.pos) ∧ wr.cell? ⟨g, k * 5 + 3, none⟩ = some (.string t.body) ∧ wr.cell? ⟨g, k * 5 + 4, none⟩ = some (.bool t.raw)) := hide ⟨by rw [hw1, show k * 5 = 5 * k + 0 by omega]; exact hc 0 _ rfl (by decide), by rw [hw1, show k * 5 + 1 = 5 * k + 1 by omega]; exact hc 1 _ rfl (by decide), by rw [hw1, show k * 5 + 2 = 5 * k + 2 by omega]; exact hc 2 _ rfl (by decide), by rw [hw1, show k * 5 + 3 = 5 * k + 3 by omega]; exact hc 3 _ rfl (by decide), by rw [hw1, show k * 5 + 4 = 5 * k + 4 by omega]; exact hc 4 _ rfl (by decide)⟩
      have hlt1 : (k : Int) < (n : Int) := by omega
      have hk0 : (0 : Int) ≤ (k : Int) := by omega
      have HT := hide ht
      have HG := hide hg
      clear hkt ht hg hc hw1
      go_wp2_with fail
      refine wp_region_held_drew (S := fun w' => w'.cell? ⟨g, k * 5, none⟩ = some (.int .i64 t.kind) ∧ w'.cell? ⟨g, k * 5 + 1, none⟩ = some (.string t.text) ∧ w'.cell? ⟨g, k * 5 + 2, none⟩ = some (.int .i64 t.pos) ∧ w'.cell? ⟨g, k * 5 + 3, none⟩ = some (.string t.body) ∧ w'.cell? ⟨g, k * 5 + 4, none⟩ = some (.bool t.raw)) (by kernel_rfl) (by exact unhide HZ) (fun hHeld => ?_)
      refine wpAnyH_take (i := 0) (oi := { dst := some 11, op := Op.move (Operand.tmp 3), type := 30, pos := "law.go:14", after := #[], guard := none }) (v := ?_) rfl (by kernel_rfl) (by kernel_rfl) (by kernel_rfl) (fun _ _ _ h => h) (Or.inl ⟨by rfl, ?_⟩) (by assumption) ?_
      rotate_left
      · intro w hSw; obtain ⟨s0, s1, s2, s3, s4⟩ := hSw; go_simp; (try with_reducible rfl)
      simp only [Act.put, List.setIfInBounds_toArray, List.set_cons_zero, List.set_cons_succ]
      refine wpAnyH_take (i := 1) (oi := { dst := some 12, op := Op.move (Operand.tmp 0), type := 27, pos := "law.go:14", after := #[], guard := none }) (v := ?_) rfl (by kernel_rfl) (by kernel_rfl) (by kernel_rfl) (fun _ _ _ h => h) (Or.inl ⟨by rfl, ?_⟩) (by assumption) ?_
      rotate_left
      · intro w hSw; obtain ⟨s0, s1, s2, s3, s4⟩ := hSw; go_simp; (try with_reducible rfl)
      simp only [Act.put, List.setIfInBounds_toArray, List.set_cons_zero, List.set_cons_succ]
      refine wpAnyH_take (i := 2) (oi := { dst := some 13, op := Op.move (Operand.tmp 4), type := 3, pos := "law.go:14", after := #[], guard := none }) (v := ?_) rfl (by kernel_rfl) (by kernel_rfl) (by kernel_rfl) (fun _ _ _ h => h) (Or.inl ⟨by rfl, ?_⟩) (by assumption) ?_
      rotate_left
      · intro w hSw; obtain ⟨s0, s1, s2, s3, s4⟩ := hSw; go_simp; (try with_reducible rfl)
      simp only [Act.put, List.setIfInBounds_toArray, List.set_cons_zero, List.set_cons_succ]
      refine wpAnyH_take (i := 3) (oi := { dst := some 14, op := Op.indexAddr 27 (Operand.tmp 12) (Operand.tmp 13), type := 0, pos := "law.go:14", after := #[{ on := 1, ground := Ground.data }, { on := 2, ground := Ground.data }], guard := none }) (v := ?_) rfl (by kernel_rfl) (by kernel_rfl) (by kernel_rfl) (fun _ _ _ h => h) (Or.inl ⟨by rfl, ?_⟩) (by assumption) ?_
      rotate_left
      · intro w hSw; obtain ⟨s0, s1, s2, s3, s4⟩ := hSw; go_simp; (try with_reducible rfl)
      simp only [Act.put, List.setIfInBounds_toArray, List.set_cons_zero, List.set_cons_succ]
      refine wpAnyH_take (i := 4) (oi := { dst := some 15, op := Op.fieldAddr 37 (Operand.tmp 14) 0, type := 0, pos := "law.go:14", after := #[{ on := 3, ground := Ground.data }], guard := none }) (v := ?_) rfl (by kernel_rfl) (by kernel_rfl) (by kernel_rfl) (fun _ _ _ h => h) (Or.inl ⟨by rfl, ?_⟩) (by assumption) ?_
      rotate_left
      · intro w hSw; obtain ⟨s0, s1, s2, s3, s4⟩ := hSw; go_simp; (try with_reducible rfl)
      simp only [Act.put, List.setIfInBounds_toArray, List.set_cons_zero, List.set_cons_succ]
      refine wpAnyH_take (i := 5) (oi := { dst := some 16, op := Op.load 3 (Operand.tmp 15), type := 3, pos := "law.go:14", after := #[{ on := 4, ground := Ground.data }], guard := none }) (v := ?_) rfl (by kernel_rfl) (by kernel_rfl) (by kernel_rfl) (fun _ _ _ h => h) (Or.inl ⟨by rfl, ?_⟩) (by assumption) ?_
      rotate_left
      · intro w hSw; obtain ⟨s0, s1, s2, s3, s4⟩ := hSw; go_simp; (try with_reducible rfl)
      simp only [Act.put, List.setIfInBounds_toArray, List.set_cons_zero, List.set_cons_succ]
      refine wpAnyH_take (i := 6) (oi := { dst := some 17, op := Op.move (Operand.tmp 0), type := 27, pos := "law.go:14", after := #[], guard := none }) (v := ?_) rfl (by kernel_rfl) (by kernel_rfl) (by kernel_rfl) (fun _ _ _ h => h) (Or.inl ⟨by rfl, ?_⟩) (by assumption) ?_
      rotate_left
      · intro w hSw; obtain ⟨s0, s1, s2, s3, s4⟩ := hSw; go_simp; (try with_reducible rfl)
      simp only [Act.put, List.setIfInBounds_toArray, List.set_cons_zero, List.set_cons_succ]
      refine wpAnyH_take (i := 7) (oi := { dst := some 18, op := Op.move (Operand.tmp 4), type := 3, pos := "law.go:14", after := #[], guard := none }) (v := ?_) rfl (by kernel_rfl) (by kernel_rfl) (by kernel_rfl) (fun _ _ _ h => h) (Or.inl ⟨by rfl, ?_⟩) (by assumption) ?_
      rotate_left
      · intro w hSw; obtain ⟨s0, s1, s2, s3, s4⟩ := hSw; go_simp; (try with_reducible rfl)
      simp only [Act.put, List.setIfInBounds_toArray, List.set_cons_zero, List.set_cons_succ]
      refine wpAnyH_take (i := 8) (oi := { dst := some 19, op := Op.indexAddr 27 (Operand.tmp 17) (Operand.tmp 18), type := 0, pos := "law.go:14", after := #[{ on := 6, ground := Ground.data }, { on := 7, ground := Ground.data }], guard := none }) (v := ?_) rfl (by kernel_rfl) (by kernel_rfl) (by kernel_rfl) (fun _ _ _ h => h) (Or.inl ⟨by rfl, ?_⟩) (by assumption) ?_
      rotate_left
      · intro w hSw; obtain ⟨s0, s1, s2, s3, s4⟩ := hSw; go_simp; (try with_reducible rfl)
      simp only [Act.put, List.setIfInBounds_toArray, List.set_cons_zero, List.set_cons_succ]
      refine wpAnyH_take (i := 9) (oi := { dst := some 20, op := Op.fieldAddr 37 (Operand.tmp 19) 1, type := 0, pos := "law.go:14", after := #[{ on := 8, ground := Ground.data }], guard := none }) (v := ?_) rfl (by kernel_rfl) (by kernel_rfl) (by kernel_rfl) (fun _ _ _ h => h) (Or.inl ⟨by rfl, ?_⟩) (by assumption) ?_
      rotate_left
      · intro w hSw; obtain ⟨s0, s1, s2, s3, s4⟩ := hSw; go_simp; (try with_reducible rfl)
      simp only [Act.put, List.setIfInBounds_toArray, List.set_cons_zero, List.set_cons_succ]
      refine wpAnyH_take (i := 10) (oi := { dst := some 21, op := Op.load 9 (Operand.tmp 20), type := 9, pos := "law.go:14", after := #[{ on := 9, ground := Ground.data }], guard := none }) (v := ?_) rfl (by kernel_rfl) (by kernel_rfl) (by kernel_rfl) (fun _ _ _ h => h) (Or.inl ⟨by rfl, ?_⟩) (by assumption) ?_
      rotate_left
      · intro w hSw; obtain ⟨s0, s1, s2, s3, s4⟩ := hSw; go_simp; (try with_reducible rfl)
      simp only [Act.put, List.setIfInBounds_toArray, List.set_cons_zero, List.set_cons_succ]
      refine wpAnyH_take (i := 11) (oi := { dst := some 22, op := Op.move (Operand.tmp 0), type := 27, pos := "law.go:14", after := #[], guard := none }) (v := ?_) rfl (by kernel_rfl) (by kernel_rfl) (by kernel_rfl) (fun _ _ _ h => h) (Or.inl ⟨by rfl, ?_⟩) (by assumption) ?_
      rotate_left
      · intro w hSw; obtain ⟨s0, s1, s2, s3, s4⟩ := hSw; go_simp; (try with_reducible rfl)
      simp only [Act.put, List.setIfInBounds_toArray, List.set_cons_zero, List.set_cons_succ]
      refine wpAnyH_take (i := 12) (oi := { dst := some 23, op := Op.move (Operand.tmp 4), type := 3, pos := "law.go:14", after := #[], guard := none }) (v := ?_) rfl (by kernel_rfl) (by kernel_rfl) (by kernel_rfl) (fun _ _ _ h => h) (Or.inl ⟨by rfl, ?_⟩) (by assumption) ?_
      rotate_left
      · intro w hSw; obtain ⟨s0, s1, s2, s3, s4⟩ := hSw; go_simp; (try with_reducible rfl)
      simp only [Act.put, List.setIfInBounds_toArray, List.set_cons_zero, List.set_cons_succ]
      refine wpAnyH_take (i := 13) (oi := { dst := some 24, op := Op.indexAddr 27 (Operand.tmp 22) (Operand.tmp 23), type := 0, pos := "law.go:14", after := #[{ on := 11, ground := Ground.data }, { on := 12, ground := Ground.data }], guard := none }) (v := ?_) rfl (by kernel_rfl) (by kernel_rfl) (by kernel_rfl) (fun _ _ _ h => h) (Or.inl ⟨by rfl, ?_⟩) (by assumption) ?_
      rotate_left
      · intro w hSw; obtain ⟨s0, s1, s2, s3, s4⟩ := hSw; go_simp; (try with_reducible rfl)
      simp only [Act.put, List.setIfInBounds_toArray, List.set_cons_zero, List.set_cons_succ]
      refine wpAnyH_take (i := 14) (oi := { dst := some 25, op := Op.fieldAddr 37 (Operand.tmp 24) 2, type := 0, pos := "law.go:14", after := #[{ on := 13, ground := Ground.data }], guard := none }) (v := ?_) rfl (by kernel_rfl) (by kernel_rfl) (by kernel_rfl) (fun _ _ _ h => h) (Or.inl ⟨by rfl, ?_⟩) (by assumption) ?_
      rotate_left
      · intro w hSw; obtain ⟨s0, s1, s2, s3, s4⟩ := hSw; go_simp; (try with_reducible rfl)
      simp only [Act.put, List.setIfInBounds_toArray, List.set_cons_zero, List.set_cons_succ]
      refine wpAnyH_take (i := 15) (oi := { dst := some 26, op := Op.load 3 (Operand.tmp 25), type := 3, pos := "law.go:14", after := #[{ on := 14, ground := Ground.data }], guard := none }) (v := ?_) rfl (by kernel_rfl) (by kernel_rfl) (by kernel_rfl) (fun _ _ _ h => h) (Or.inl ⟨by rfl, ?_⟩) (by assumption) ?_
      rotate_left
      · intro w hSw; obtain ⟨s0, s1, s2, s3, s4⟩ := hSw; go_simp; (try with_reducible rfl)
      simp only [Act.put, List.setIfInBounds_toArray, List.set_cons_zero, List.set_cons_succ]
      refine wpAnyH_take (i := 16) (oi := { dst := some 27, op := Op.move (Operand.tmp 0), type := 27, pos := "law.go:14", after := #[], guard := none }) (v := ?_) rfl (by kernel_rfl) (by kernel_rfl) (by kernel_rfl) (fun _ _ _ h => h) (Or.inl ⟨by rfl, ?_⟩) (by assumption) ?_
      rotate_left
      · intro w hSw; obtain ⟨s0, s1, s2, s3, s4⟩ := hSw; go_simp; (try with_reducible rfl)
      simp only [Act.put, List.setIfInBounds_toArray, List.set_cons_zero, List.set_cons_succ]
      refine wpAnyH_take (i := 17) (oi := { dst := some 28, op := Op.move (Operand.tmp 4), type := 3, pos := "law.go:14", after := #[], guard := none }) (v := ?_) rfl (by kernel_rfl) (by kernel_rfl) (by kernel_rfl) (fun _ _ _ h => h) (Or.inl ⟨by rfl, ?_⟩) (by assumption) ?_
      rotate_left
      · intro w hSw; obtain ⟨s0, s1, s2, s3, s4⟩ := hSw; go_simp; (try with_reducible rfl)
      simp only [Act.put, List.setIfInBounds_toArray, List.set_cons_zero, List.set_cons_succ]
      refine wpAnyH_take (i := 18) (oi := { dst := some 29, op := Op.indexAddr 27 (Operand.tmp 27) (Operand.tmp 28), type := 0, pos := "law.go:14", after := #[{ on := 16, ground := Ground.data }, { on := 17, ground := Ground.data }], guard := none }) (v := ?_) rfl (by kernel_rfl) (by kernel_rfl) (by kernel_rfl) (fun _ _ _ h => h) (Or.inl ⟨by rfl, ?_⟩) (by assumption) ?_
      rotate_left
      · intro w hSw; obtain ⟨s0, s1, s2, s3, s4⟩ := hSw; go_simp; (try with_reducible rfl)
      simp only [Act.put, List.setIfInBounds_toArray, List.set_cons_zero, List.set_cons_succ]
      refine wpAnyH_take (i := 19) (oi := { dst := some 30, op := Op.fieldAddr 37 (Operand.tmp 29) 3, type := 0, pos := "law.go:14", after := #[{ on := 18, ground := Ground.data }], guard := none }) (v := ?_) rfl (by kernel_rfl) (by kernel_rfl) (by kernel_rfl) (fun _ _ _ h => h) (Or.inl ⟨by rfl, ?_⟩) (by assumption) ?_
      rotate_left
      · intro w hSw; obtain ⟨s0, s1, s2, s3, s4⟩ := hSw; go_simp; (try with_reducible rfl)
      simp only [Act.put, List.setIfInBounds_toArray, List.set_cons_zero, List.set_cons_succ]
      refine wpAnyH_take (i := 20) (oi := { dst := some 31, op := Op.load 9 (Operand.tmp 30), type := 9, pos := "law.go:14", after := #[{ on := 19, ground := Ground.data }], guard := none }) (v := ?_) rfl (by kernel_rfl) (by kernel_rfl) (by kernel_rfl) (fun _ _ _ h => h) (Or.inl ⟨by rfl, ?_⟩) (by assumption) ?_
      rotate_left
      · intro w hSw; obtain ⟨s0, s1, s2, s3, s4⟩ := hSw; go_simp; (try with_reducible rfl)
      simp only [Act.put, List.setIfInBounds_toArray, List.set_cons_zero, List.set_cons_succ]
      refine wpAnyH_take (i := 21) (oi := { dst := some 32, op := Op.move (Operand.tmp 0), type := 27, pos := "law.go:14", after := #[], guard := none }) (v := ?_) rfl (by kernel_rfl) (by kernel_rfl) (by kernel_rfl) (fun _ _ _ h => h) (Or.inl ⟨by rfl, ?_⟩) (by assumption) ?_
      rotate_left
      · intro w hSw; obtain ⟨s0, s1, s2, s3, s4⟩ := hSw; go_simp; (try with_reducible rfl)
      simp only [Act.put, List.setIfInBounds_toArray, List.set_cons_zero, List.set_cons_succ]
      refine wpAnyH_take (i := 22) (oi := { dst := some 33, op := Op.move (Operand.tmp 4), type := 3, pos := "law.go:14", after := #[], guard := none }) (v := ?_) rfl (by kernel_rfl) (by kernel_rfl) (by kernel_rfl) (fun _ _ _ h => h) (Or.inl ⟨by rfl, ?_⟩) (by assumption) ?_
      rotate_left
      · intro w hSw; obtain ⟨s0, s1, s2, s3, s4⟩ := hSw; go_simp; (try with_reducible rfl)
      simp only [Act.put, List.setIfInBounds_toArray, List.set_cons_zero, List.set_cons_succ]
      refine wpAnyH_take (i := 23) (oi := { dst := some 34, op := Op.indexAddr 27 (Operand.tmp 32) (Operand.tmp 33), type := 0, pos := "law.go:14", after := #[{ on := 21, ground := Ground.data }, { on := 22, ground := Ground.data }], guard := none }) (v := ?_) rfl (by kernel_rfl) (by kernel_rfl) (by kernel_rfl) (fun _ _ _ h => h) (Or.inl ⟨by rfl, ?_⟩) (by assumption) ?_
      rotate_left
      · intro w hSw; obtain ⟨s0, s1, s2, s3, s4⟩ := hSw; go_simp; (try with_reducible rfl)
      simp only [Act.put, List.setIfInBounds_toArray, List.set_cons_zero, List.set_cons_succ]
      refine wpAnyH_take (i := 24) (oi := { dst := some 35, op := Op.fieldAddr 37 (Operand.tmp 34) 4, type := 0, pos := "law.go:14", after := #[{ on := 23, ground := Ground.data }], guard := none }) (v := ?_) rfl (by kernel_rfl) (by kernel_rfl) (by kernel_rfl) (fun _ _ _ h => h) (Or.inl ⟨by rfl, ?_⟩) (by assumption) ?_
      rotate_left
      · intro w hSw; obtain ⟨s0, s1, s2, s3, s4⟩ := hSw; go_simp; (try with_reducible rfl)
      simp only [Act.put, List.setIfInBounds_toArray, List.set_cons_zero, List.set_cons_succ]
      refine wpAnyH_take (i := 25) (oi := { dst := some 36, op := Op.load 4 (Operand.tmp 35), type := 4, pos := "law.go:14", after := #[{ on := 24, ground := Ground.data }], guard := none }) (v := ?_) rfl (by kernel_rfl) (by kernel_rfl) (by kernel_rfl) (fun _ _ _ h => h) (Or.inl ⟨by rfl, ?_⟩) (by assumption) ?_
      rotate_left
      · intro w hSw; obtain ⟨s0, s1, s2, s3, s4⟩ := hSw; go_simp; (try with_reducible rfl)
      simp only [Act.put, List.setIfInBounds_toArray, List.set_cons_zero, List.set_cons_succ]
      refine wpAnyH_take (i := 26) (oi := { dst := some 37, op := Op.build 65 #[(0, Operand.tmp 16), (1, Operand.tmp 21), (2, Operand.tmp 26), (3, Operand.tmp 31), (4, Operand.tmp 36)], type := 65, pos := "law.go:14", after := #[{ on := 5, ground := Ground.data }, { on := 10, ground := Ground.data }, { on := 15, ground := Ground.data }, { on := 20, ground := Ground.data }, { on := 25, ground := Ground.data }], guard := none }) (v := ?_) rfl (by kernel_rfl) (by kernel_rfl) (by kernel_rfl) (fun _ _ _ h => h) (Or.inl ⟨by rfl, ?_⟩) (by assumption) ?_
      rotate_left
      · intro w hSw; obtain ⟨s0, s1, s2, s3, s4⟩ := hSw; go_simp; (try with_reducible rfl)
      simp only [Act.put, List.setIfInBounds_toArray, List.set_cons_zero, List.set_cons_succ]
      refine wpAnyH_ready (rs := [27]) (by kernel_rfl) (by simp) ?_
      refine AllReadyH.cons (o := { dst := some 38, op := Op.buildSlice 30 1 #[(0, Operand.tmp 37)], type := 30, pos := "law.go:14", after := #[{ on := 26, ground := Ground.data }], guard := none }) rfl (fun KK hKK => ?_) AllReadyH.nil
      go_simp
      have z1 : (wr.alloc (.cells #[.int .i64 t.kind, .string t.text, .int .i64 t.pos, .string t.body, .bool t.raw] 65)).cell? ⟨g, k * 5, none⟩ = some (.int .i64 t.kind) ∧ (wr.alloc (.cells #[.int .i64 t.kind, .string t.text, .int .i64 t.pos, .string t.body, .bool t.raw] 65)).cell? ⟨g, k * 5 + 1, none⟩ = some (.string t.text) ∧ (wr.alloc (.cells #[.int .i64 t.kind, .string t.text, .int .i64 t.pos, .string t.body, .bool t.raw] 65)).cell? ⟨g, k * 5 + 2, none⟩ = some (.int .i64 t.pos) ∧ (wr.alloc (.cells #[.int .i64 t.kind, .string t.text, .int .i64 t.pos, .string t.body, .bool t.raw] 65)).cell? ⟨g, k * 5 + 3, none⟩ = some (.string t.body) ∧ (wr.alloc (.cells #[.int .i64 t.kind, .string t.text, .int .i64 t.pos, .string t.body, .bool t.raw] 65)).cell? ⟨g, k * 5 + 4, none⟩ = some (.bool t.raw) := ⟨cell_alloc (unhide HZ).1 _, cell_alloc (unhide HZ).2.1 _, cell_alloc (unhide HZ).2.2.1 _, cell_alloc (unhide HZ).2.2.2.1 _, cell_alloc (unhide HZ).2.2.2.2 _⟩
      refine hKK.out _ _ (by exact z1) (fun hHeld => ?_)
      clear hKK KK
      try simp only [Act.put, List.setIfInBounds_toArray, List.set_cons_zero, List.set_cons_succ]
      refine wpAnyH_ready (rs := [28]) (by kernel_rfl) (by simp) ?_
      refine AllReadyH.cons (o := { dst := some 39, op := Op.call { callee := Callee.builtin Builtin.append, args := #[Operand.tmp 11, Operand.tmp 38], argTypes := #[30, 30] }, type := 30, pos := "law.go:14", after := #[{ on := 0, ground := Ground.data }, { on := 27, ground := Ground.data }], guard := none }) rfl (fun KK hKK => ?_) AllReadyH.nil
      refine step_append_lies _ (by rfl) _ _ _ (by rfl) w.heap.size 65 iT _ 5 56 und_rtok hiT hzT0 hzT1 hzT2 rfl (by decide) u3 k (flatT (ts.take k)) (by simp [Act.eval]) (own_drew (World.ownsRow.alloc (unhide HO).1 _)) ⟨wr.heap.size, 0, none⟩ 1 1 [.int .i64 t.kind, .string t.text, .int .i64 t.pos, .string t.body, .bool t.raw] (by simp [Act.eval]) rfl (fun j u hu => five_cells j u hu) five_val (by decide) (by unfold maxLen; omega) (by omega) (by have := (unhide HO).2.size; simp; omega) (wr.heap.size + 1) (by simp) ?_
      intro gg cg w3 hown3 hgrow _ _
      have hne : some g ≠ u3.ownBlock := fun e => by have h1 := (World.ownsRow.lt (unhide HO).1 g e.symm).1; have h2 := unhide HG; omega
      have z2 : w3.cell? ⟨g, k * 5, none⟩ = some (.int .i64 t.kind) ∧ w3.cell? ⟨g, k * 5 + 1, none⟩ = some (.string t.text) ∧ w3.cell? ⟨g, k * 5 + 2, none⟩ = some (.int .i64 t.pos) ∧ w3.cell? ⟨g, k * 5 + 3, none⟩ = some (.string t.body) ∧ w3.cell? ⟨g, k * 5 + 4, none⟩ = some (.bool t.raw) := ⟨hgrow.cell z1.1 hne, hgrow.cell z1.2.1 hne, hgrow.cell z1.2.2.1 hne, hgrow.cell z1.2.2.2.1 hne, hgrow.cell z1.2.2.2.2 hne⟩
      have HW3 : Hid (w3.ownsRow w.heap.size 65 5 (.slice (some ⟨gg, 0, none⟩) (k + 1) cg) (k + 1) (flatT (ts.take (k + 1))) ∧ Below w.heap.size w w3) := hide ⟨by rw [List.take_add_one, unhide HT]; show World.ownsRow _ _ _ _ _ _ (flatT (ts.take k ++ [t])); rw [flatT_snoc]; exact hown3, ((unhide HO).2.alloc (unhide HO).2.size _).drew.grown hgrow (by have := (unhide HO).2.size; simp; omega) (fun j hj => (World.ownsRow.lt (unhide HO).1 j hj).1)⟩
      clear hown3 hgrow hne
      refine hKK.out _ _ (by exact z2) (fun hHeld => ?_)
      clear hKK KK
      try simp only [Act.put, List.setIfInBounds_toArray, List.set_cons_zero, List.set_cons_succ]
      refine wpAnyH_take (i := 29) (oi := { dst := some 3, op := Op.assign (Operand.tmp 39), type := 30, pos := "law.go:14", after := #[{ on := 28, ground := Ground.data }, { on := 28, ground := Ground.chain }, { on := 0, ground := Ground.phase }, { on := 1, ground := Ground.phase }, { on := 2, ground := Ground.phase }, { on := 3, ground := Ground.phase }, { on := 4, ground := Ground.phase }, { on := 5, ground := Ground.phase }, { on := 6, ground := Ground.phase }, { on := 7, ground := Ground.phase }, { on := 8, ground := Ground.phase }, { on := 9, ground := Ground.phase }, { on := 10, ground := Ground.phase }, { on := 11, ground := Ground.phase }, { on := 12, ground := Ground.phase }, { on := 13, ground := Ground.phase }, { on := 14, ground := Ground.phase }, { on := 15, ground := Ground.phase }, { on := 16, ground := Ground.phase }, { on := 17, ground := Ground.phase }, { on := 18, ground := Ground.phase }, { on := 19, ground := Ground.phase }, { on := 20, ground := Ground.phase }, { on := 21, ground := Ground.phase }, { on := 22, ground := Ground.phase }, { on := 23, ground := Ground.phase }, { on := 24, ground := Ground.phase }, { on := 25, ground := Ground.phase }, { on := 26, ground := Ground.phase }, { on := 27, ground := Ground.phase }, { on := 28, ground := Ground.phase }], guard := none }) (v := ?_) rfl (by kernel_rfl) (by kernel_rfl) (by kernel_rfl) (fun _ _ _ h => h) (Or.inl ⟨by rfl, ?_⟩) (by assumption) ?_
      rotate_left
      · intro w hSw; obtain ⟨s0, s1, s2, s3, s4⟩ := hSw; go_simp; (try with_reducible rfl)
      simp only [Act.put, List.setIfInBounds_toArray, List.set_cons_zero, List.set_cons_succ]
      clear hHeld
      refine wpAnyH_done (by kernel_rfl) ?_ _
      clear z1 z2
      go_wp2
      go_roundw
      case rel => exact ⟨k + 1, by go_num, by omega, hide ⟨(unhide HW3).1, (unhide HW3).2⟩⟩
      case measure => simp [intOf]; omega
    · have hlt1 : ¬ (k : Int) < (n : Int) := by omega
      have HTR : Hid (TRow wr u3 ts) := hide (by
        have h1 := (unhide HO).1
        have hkn : k = ts.length := by have := unhide HN; omega
        rw [List.take_of_length_le (by omega)] at h1
        exact trow_any h1 hkn)
      go_wp2
      go_ret
      exact ⟨_, rfl, (unhide HO).2, unhide HTR⟩

end Go.Proofs.YtlmpdfeidjnmnaaDoor

namespace Go.Proofs.YtlmpdfeidjnmnaaDoor
open Go.ChangeShapes Go.WideShapes Go.ChangeAt Go.RowKit
open Go.ChangeMaps (open_string)

/-- Texts that stand in l are no more than its bytes. -/
theorem stands_few {l : List UInt8} : ∀ (ts : List (Int × ByteArray)) (e : Nat), Stands l e ts → e ≤ l.length → ts.length + e ≤ l.length
  | [], e, _, he => by simpa using he
  | t :: ts, e, h, _ => by
    obtain ⟨⟨p, h1, h2, h3, h4, _⟩, h5⟩ := h
    have h0 : 0 < t.2.size := by
      rw [← data_len]
      exact List.length_pos_iff.2 h3
    have he : endOf t = p + t.2.size := by
      unfold endOf
      rw [h1]
      omega
    have := stands_few ts (endOf t) h5 (by omega)
    simp
    omega
theorem trow_nil (w : World) : TRow w (.slice none 0 0) [] := ⟨none, 0, rfl, fun i t h => by simp at h⟩
set_option maxRecDepth 20000 in
set_option maxHeartbeats 8000000 in
theorem lex_big (s : ByteArray) (w : World) (hb : 4096 < s.size) :
    Calls Tryd.prog 12 #[.string s] w fun e w' => ∃ v, e = .returned (.tuple #[v, .int .i64 0, .int .i64 3]) ∧ Below w.heap.size w w' ∧ TRow w' v [] := by
  have hb' : (4096 : Int) < (s.size : Int) := by omega
  go_enter Tryd.func12, Tryd.ntmps12
  go_wp2
  go_ret3
  exact ⟨_, rfl, Below.refl _ _, trow_nil _⟩
set_option maxRecDepth 20000 in
set_option maxHeartbeats 8000000 in
theorem rlex_big (s : ByteArray) (w : World) (hb : 4096 < s.size) :
    Calls Tryd.prog 13 #[.string s] w fun e w' => ∃ v, e = .returned (.tuple #[v, .int .i64 0, .int .i64 3]) ∧ Below w.heap.size w w' ∧ TRow w' v [] := by
  have hb' : (4096 : Int) < (s.size : Int) := by omega
  go_enter Tryd.func13, Tryd.ntmps13
  go_wp2
  go_ret3
  exact ⟨_, rfl, Below.refl _ _, trow_nil _⟩
/-- Both answer the same, of a text of up to 1000 bytes, or of more than 4096. -/
theorem both (s : ByteArray) (w : World) (he : Env w) : ∃ (ts : List Tok) (bl fl : Int), ts.length ≤ 100000 ∧
    Calls Tryd.prog 12 #[.string s] w (fun e w' => ∃ v, e = .returned (.tuple #[v, .int .i64 bl, .int .i64 fl]) ∧ Below w.heap.size w w' ∧ TRow w' v ts) ∧
    ∀ w1, Calls Tryd.prog 13 #[.string s] w1 (fun e w' => ∃ v, e = .returned (.tuple #[v, .int .i64 bl, .int .i64 fl]) ∧ Below w1.heap.size w1 w' ∧ TRow w' v ts) := by
  by_cases hb : 4096 < s.size
  · exact ⟨[], 0, 3, Nat.zero_le _, lex_big s w hb, fun w1 => rlex_big s w1 hb⟩
  · refine ⟨(lexL s.data.toList).1, (lexL s.data.toList).2.1, (lexL s.data.toList).2.2, ?_, lex_env s w (by omega) he, fun w1 => rlex_any s w1 (by omega)⟩
    have h1 := stands_few _ 0 (lexL_stands s.data.toList (by rw [data_len]; omega)).1 (Nat.zero_le _)
    rw [show (pts (lexL s.data.toList).1).length = (lexL s.data.toList).1.length by simp [pts], data_len] at h1
    omega

set_option maxRecDepth 20000 in
set_option maxHeartbeats 8000000 in
theorem tokens_walk (s : ByteArray) (w : World) (he : Env w) :
    Calls Tryd.prog 4 #[.string s] w fun e w' => e = .returned (.bool true) ∧ Below w.heap.size w w' := by
  have HE := hide he
  clear he
  by_cases hb : 1000 < s.size ∧ s.size ≤ 4096
  · have hb1 : (1000 : Int) < (s.size : Int) := by omega
    have hb2 : (s.size : Int) ≤ (4096 : Int) := by omega
    clear hb
    go_enter Tryd.func4, Tryd.ntmps4
    go_wp2_with fail
    refine (awake_any w (unhide HE)).mono ?_
    rintro e w1 ⟨rfl, b1⟩
    go_wp2
    go_ret
    exact ⟨rfl, b1⟩
  obtain ⟨ts, bl, fl, hl, hL, hR⟩ := both s w (unhide HE)
  have HL := hide hL
  have HR := hide hR
  have HTL := hide hl
  clear hL hR hl
  by_cases hc : 1000 < s.size
  · have hb1 : (1000 : Int) < (s.size : Int) := by omega
    have hb2 : ¬ (s.size : Int) ≤ (4096 : Int) := by omega
    clear hb hc
    go_enter Tryd.func4, Tryd.ntmps4
    go_wp2_with fail
    refine (unhide HL).mono ?_
    rintro e w1 ⟨v1, rfl, b1, r1⟩
    have R1 := hide r1
    have B1 := hide b1
    clear b1 r1 HL
    go_wp2_with fail
    refine (unhide HR w1).mono ?_
    rintro e w2 ⟨v2, rfl, b2, r2⟩
    have R2 := hide r2
    have R12 := hide ((unhide R1).below b2 (Nat.le_refl _))
    have B2 := hide ((unhide B1).trans (b2.mono (unhide B1).size))
    clear b2 r2 HR
    go_wp2_with fail
    refine (plain_any v1 ts w2 (unhide R12) (unhide HTL)).mono ?_
    rintro e w3 ⟨v3, rfl, b3, r3⟩
    have R3 := hide r3
    have R23 := hide ((unhide R2).below b3 (Nat.le_refl _))
    have B3 := hide ((unhide B2).trans (b3.mono (unhide B2).size))
    clear b3 r3
    go_wp2_with fail
    refine (same_any v3 v2 ts w3 (unhide R3) (unhide R23) (unhide HTL)).mono ?_
    rintro e w4 ⟨rfl, b4⟩
    have B4 := hide ((unhide B3).trans (b4.mono (unhide B3).size))
    have HEx := hide ((unhide HE).below (unhide B4) (Nat.le_refl _))
    clear b4
    go_wp2_with fail
    refine (awake_any w4 (unhide HEx)).mono ?_
    rintro e w5 ⟨rfl, b5⟩
    have B5 := hide ((unhide B4).trans (b5.mono (unhide B4).size))
    clear b5
    go_wp2
    go_ret
    exact ⟨rfl, unhide B5⟩
  · have hb1 : ¬ (1000 : Int) < (s.size : Int) := by omega
    clear hb hc
    go_enter Tryd.func4, Tryd.ntmps4
    go_wp2_with fail
    refine (unhide HL).mono ?_
    rintro e w1 ⟨v1, rfl, b1, r1⟩
    have R1 := hide r1
    have B1 := hide b1
    clear b1 r1 HL
    go_wp2_with fail
    refine (unhide HR w1).mono ?_
    rintro e w2 ⟨v2, rfl, b2, r2⟩
    have R2 := hide r2
    have R12 := hide ((unhide R1).below b2 (Nat.le_refl _))
    have B2 := hide ((unhide B1).trans (b2.mono (unhide B1).size))
    clear b2 r2 HR
    go_wp2_with fail
    refine (plain_any v1 ts w2 (unhide R12) (unhide HTL)).mono ?_
    rintro e w3 ⟨v3, rfl, b3, r3⟩
    have R3 := hide r3
    have R23 := hide ((unhide R2).below b3 (Nat.le_refl _))
    have B3 := hide ((unhide B2).trans (b3.mono (unhide B2).size))
    clear b3 r3
    go_wp2_with fail
    refine (same_any v3 v2 ts w3 (unhide R3) (unhide R23) (unhide HTL)).mono ?_
    rintro e w4 ⟨rfl, b4⟩
    have B4 := hide ((unhide B3).trans (b4.mono (unhide B3).size))
    have HEx := hide ((unhide HE).below (unhide B4) (Nat.le_refl _))
    clear b4
    go_wp2_with fail
    refine (awake_any w4 (unhide HEx)).mono ?_
    rintro e w5 ⟨rfl, b5⟩
    have B5 := hide ((unhide B4).trans (b5.mono (unhide B4).size))
    clear b5
    go_wp2
    go_ret
    exact ⟨rfl, unhide B5⟩

set_option maxRecDepth 100000 in
theorem lexTokens_lifted (os : Os) (started : os.Started) (H : Type) (enc : TypeId × Value → H) :
    ReturnsInHanded {} Tryd.checked os 4 .any (fun w args => (Rows.lexTokensSpec.pre enc Tryd.prog Tryd.f4 [] false w args ∧ laidMetH Tryd.prog seatLaid w) ∧ sizedMet enc Tryd.prog Tryd.f4 (OpenSpec.ofChange Rows.lexTokensSpec) false w args)
      (Rows.lexTokensSpec.post enc Tryd.prog Tryd.f4 false true false false) := by
  refine law_lifted (C := Tryd.checked) (L := seatLaid) (tb := 4) own started (by kernel_rfl) Tryd.func4 laidOut rfl (read_of (by kernel_rfl)) (by kernel_rfl) Tryd.underlying4 ?_
    (ChangeSpec.witness_shaped (enc := enc) (C := Tryd.checked) (os := os) (X := fun w _ => laidMetH Tryd.prog seatLaid w) false (World.laidAll Tryd.prog os seatLaid) #[.string ⟨#[]⟩] 8 (World.laidAll_os _ _ _)
      (World.shaped_of_ZipB (by kernel_rfl) (by kernel_rfl)) (by kernel_rfl) (by kernel_rfl) (by kernel_rfl) (door_met os _)) ?_
  · intro ds hds
    rw [show Tryd.f4.params.toList.length = 1 from by kernel_rfl] at hds
    match ds, hds with
    | [d0], _ => rfl
  · intro W base args ds ps hval0 hA0 hL hsh
    have hval : ∀ (j : Nat) t v, Tryd.f4.params[j]? = some t → args[j]? = some v → Value.okWide Tryd.prog W .any base t v := hval0
    have hA : DataW.TrodAll enc Tryd.prog W 0 (fun _ => true) true Tryd.f4.params.toList args.toList ds ps := hA0
    rw [Tryd.params4] at hA hval
    obtain ⟨v0, d0, rfl, rfl, h0⟩ := trodAll_one hA
    obtain ⟨s, rfl, rfl, rfl, _⟩ := open_string Tryd.underlying9 (hval 0 9 v0 rfl rfl) h0
    exact tokens_walk s W (env_of hL hsh)

theorem lexTokens_row : Rows.LexTokensSaid :=
  OpenClaim.holds_of_wide 4 Tryd.f4 rfl rfl rfl rfl rfl rfl rfl ⟨rfl, rfl, rfl, rfl, rfl⟩ rfl rfl rfl rfl rfl (by kernel_rfl) Tryd.func4 (by kernel_rfl)
    (of_decide_eq_true (by kernel_rfl)) (by unfold Func.isWrapper; first | (rw [if_pos (by decide +kernel)]; kernel_rfl) | (rw [if_neg (by decide +kernel)]; exact ⟨rfl, rfl⟩))
    (fun os started H enc _ => lexTokens_lifted os started H enc)

theorem lexTokens_holds : Rows.LexTokensCardSaid :=
  Claim7.holds_tied_plain_at .later [] [.data, .data, .pinned] true (true, "888efd2cc860f4bc7ce121053343fbef125507d58a36e072d99fc54c961cf5f0") false
    lexTokens_row (fun _ h => by cases h) (by kernel_rfl) (fun _ h => by cases h) lexTokens_row_tie rfl ⟨rfl, rfl⟩ (by kernel_rfl) rfl
    (fun f fn hf hfn => by
      obtain rfl : f = 4 := Option.some.inj ((show Tryd.prog.funcNamed "conch/conchlaw04.LexTokens" = some 4 by kernel_rfl).symm.trans hf) |>.symm
      obtain rfl : fn = Tryd.f4 := (Option.some.inj (Tryd.func4.symm.trans hfn)).symm
      exact ⟨by kernel_rfl, fun j t ht => by
        rw [Tryd.params4] at ht
        have hm : t ∈ [9] := by simpa using Array.mem_of_getElem? ht
        have hall : ([9].all fun u => !Tryd.prog.wantsStandIn u) = true := by kernel_rfl
        exact (show Tryd.prog.wantsStandIn t = false by simpa using List.all_eq_true.1 hall t hm)⟩)
    (by kernel_rfl)
#print axioms lexTokens_holds

end Go.Proofs.YtlmpdfeidjnmnaaDoor

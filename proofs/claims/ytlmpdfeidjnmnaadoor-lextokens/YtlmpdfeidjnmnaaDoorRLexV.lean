/-
  The document's 'Lex': a Word behind << or <<-.
  The document's 'Lex': a Word behind << or <<-.
  The document's 'Lex': a Word behind << or <<-.
  The document's 'Lex': a Word behind << or <<-.
-/
import Derived.Test.YtlmpdfeidjnmnaaDoorRLexDE

/- The document's 'Lex': a Word behind << or <<-. -/
namespace Go.Proofs.YtlmpdfeidjnmnaaDoor
open Go.RowKit

set_option maxRecDepth 1000000 in
set_option maxHeartbeats 40000000 in
theorem tl_60_h2 {s : ByteArray} {w wr : World} {T st : LS} {q p G : Nat} {Wd : List UInt8} {Q1 : Exit → Act → World → Prop} {u2 u3 u4 u5 u6 u8 u9 u10 u11 u12 u13 u14 u15 u17 u18 u19 u23 u24 u25 u26 u27 u28 u29 u30 u31 u32 u33 u34 u35 u36 u37 u38 u39 u40 u41 u42 u43 u44 u45 u46 u47 u48 u49 u50 u51 u52 u53 u54 u55 u56 u57 u58 u59 u60 u61 u62 u63 u64 u65 u66 u67 u68 u69 u70 u71 u72 u73 u74 u75 u76 u77 u78 u79 u80 u81 u82 u83 u84 u85 u86 u87 u88 u89 u90 u91 u92 u93 u94 u95 u96 u97 u98 u99 u100 u101 u102 u103 u104 u105 u106 u107 u108 u109 u110 u111 u112 u113 u114 u115 u116 u117 u118 u119 u120 u121 u122 u123 u124 u125 u126 u127 u128 u129 u130 u131 u132 u133 u134 u135 u136 u137 u138 u139 u140 u141 u142 u143 u144 u145 u146 u147 u148 u149 u150 u151 u152 u153 u154 u155 u156 u157 u158 u159 u160 u161 u162 u163 u164 u165 u166 u167 u168 u169 u170 u171 u172 u173 u174 u175 u176 u177 u178 u179 u180 u181 u182 u183 u184 u185 u186 u187 u188 u189 u190 u191 u192 u193 u194 u195 u196 u197 u198 u199 u200 u201 u202 u203 u204 u205 u206 u207 u208 u209 u210 u211 u212 u213 u214 u215 u216 u217 u218 u219 u220 u221 u222 u223 u224 u225 u226 u227 u228 : Value} (hs : s.size ≤ 100000) (HD : Hid (WEnd w s T st u5 u6 q p Wd G wr)) (hp : p < s.size) (H60 : Hid (s[p] = 60)) (HDG : Hid (digsB Wd = false)) {t : Tok} (HL : Hid (st.toks.getLast? = some t)) (HKD : Hid (t.kind = 2)) (HTX : Hid (t.text = BA [60, 60])) :
    Code.wp Tryd.prog wdTail (Exit.inBlock 1 (Exit.then (fun a' w'' => WI w s T a' w'' ∧ Wmu s a' < s.size - q) Q1)) ⟨#[.string s, undef, u2, u3, u4, u5, u6, .int .i64 (p : Int), u8, u9, u10, u11, u12, u13, u14, u15, .int .i64 (q : Int), u17, u18, u19, .string s, .int .i64 (s.size : Int), .bool false, u23, u24, u25, u26, u27, u28, u29, u30, u31, u32, u33, u34, u35, u36, u37, u38, u39, u40, u41, u42, u43, u44, u45, u46, u47, u48, u49, u50, u51, u52, u53, u54, u55, u56, u57, u58, u59, u60, u61, u62, u63, u64, u65, u66, u67, u68, u69, u70, u71, u72, u73, u74, u75, u76, u77, u78, u79, u80, u81, u82, u83, u84, u85, u86, u87, u88, u89, u90, u91, u92, u93, u94, u95, u96, u97, u98, u99, u100, u101, u102, u103, u104, u105, u106, u107, u108, u109, u110, u111, u112, u113, u114, u115, u116, u117, u118, u119, u120, u121, u122, u123, u124, u125, u126, u127, u128, u129, u130, u131, u132, u133, u134, u135, u136, u137, u138, u139, u140, u141, u142, u143, u144, u145, u146, u147, u148, u149, u150, u151, u152, u153, u154, u155, u156, u157, u158, u159, u160, u161, u162, u163, u164, u165, u166, u167, u168, u169, u170, u171, u172, u173, u174, u175, u176, u177, u178, u179, u180, u181, u182, u183, u184, u185, u186, u187, u188, u189, u190, u191, u192, u193, u194, u195, u196, u197, u198, u199, u200, u201, u202, u203, u204, u205, u206, u207, u208, u209, u210, u211, u212, u213, u214, u215, u216, u217, u218, u219, u220, u221, u222, u223, u224, u225, u226, u227, u228, undef, undef, undef, undef, undef, undef, undef, undef, undef, undef, undef, undef, undef], []⟩ wr := by
  conv => arg 2; whnf
  obtain ⟨iT, hiT, hzT0, hzT1, hzT2⟩ := info_of info_rtok
  have hrw := (unhide HD).at0.rws
  have htl : st.toks.length ≤ s.size := (unhide HD).at0.few.toks
  obtain ⟨n5, hn5⟩ : ∃ n, n = st.toks.length := ⟨_, rfl⟩
  have hout := hrw.out
  rw [← hn5] at hout
  obtain ⟨ad5, cap5, he5, hsh5⟩ := out_shape hout hn5
  subst he5
  have hql := (unhide HD).qlt
  have hpl := (unhide HD).ple
  have hq0 : (0 : Int) ≤ (q : Int) := by omega
  have hp0 : (0 : Int) ≤ (p : Int) := by omega
  have hqp : (q : Int) ≤ (p : Int) := by omega
  have hps : (p : Int) ≤ (s.size : Int) := by omega
  have hex := (unhide HD).word
  have hwsz : (BA Wd).size = p - q := by
    rw [← (unhide HD).wlen]
    rfl
  have HWS := hide hwsz
  obtain ⟨n, hn⟩ : ∃ n, n5 = n + 1 := ⟨n5 - 1, by
    have : st.toks ≠ [] := fun e => by rw [e] at HL; exact absurd (unhide HL) (by simp)
    have := List.length_pos_iff.2 this
    omega⟩
  have ht : st.toks[n]? = some t := by
    have h1 := unhide HL
    rw [List.getLast?_eq_getElem?, ← hn5, hn] at h1
    exact h1
  have hwn : IntKind.i64.wrap ((n5 : Int) - 1) = (n : Int) := by rw [IntKind.wrap_i64]; omega
  have hn0 : (0 : Int) ≤ (n : Int) := by omega
  have hnl : (n : Int) < (n5 : Int) := by omega
  have hnn : n5 ≤ n + 1 ∧ n < n5 := by omega
  obtain ⟨g5, hg5, hb5, _, _, _⟩ := hsh5 n t ht
  subst hg5
  have HT := hide ht
  clear ht hn
  have hkd : (t.kind == 2) = true := by rw [unhide HKD]; rfl
  have hx1 : (t.text.toList == [60, 60]) = true := by rw [unhide HTX, ByteArray.toList_eq, BA_list]; rfl
  have hp' : (p : Int) < (s.size : Int) := by omega
  have v60 : ((s[p].toNat : Int) == 60) = true := by rw [unhide H60]; rfl
  have HIO : Hid ((digsB Wd && ((s.data.toList.drop p).head? == some 60 || (s.data.toList.drop p).head? == some 62)) = false) := hide (by
    rw [unhide HDG]; rfl)
  have HST : Hid (stepR s.size st = ({ st with rest := s.data.toList.drop p, toks := st.toks.modify n (fun t => { t with raw := anyQ Wd }), wait := st.wait ++ [⟨n, endL Wd, false⟩] } : LS).add 1 Wd (q : Int)) := hide (by
    rw [(unhide HD).step, unhide HIO]
    simp only [Bool.false_eq_true, if_false]
    congr 1
    unfold awaitL
    rw [show ({ st with rest := s.data.toList.drop p } : LS).toks.getLast? = some t from unhide HL]
    simp only
    rw [if_pos (.inl (unhide HTX)), show (t.text == BA [60, 60, 45]) = false by rw [unhide HTX]; decide, show st.toks.length - 1 = n by omega]
    rfl)
  obtain ⟨iW, hiW, hzW0, hzW1, hzW2⟩ := info_of info_rwt
  have HN5 := hide hn5
  have HSH := hide hsh5
  clear hrw hout hsh5 hwsz hn5
  go_upto_region 40 with fail
  clear hex
  obtain ⟨tb, htb⟩ : ∃ x, x = wr.heap.size := ⟨_, rfl⟩
  obtain ⟨wA, hwA⟩ : ∃ x, x = wr.alloc (.cells #[.int .i64 1, .string (BA Wd), .int .i64 (q : Int), .string ⟨#[]⟩, .bool false] 65) := ⟨_, rfl⟩
  rw [← htb, ← hwA]
  have hbA : Blk wA tb 65 #[.int .i64 1, .string (BA Wd), .int .i64 (q : Int), .string ⟨#[]⟩, .bool false] := by rw [hwA, htb]; exact Blk.new wr _ _
  have HRA : Hid (Rws w.heap.size wA (.slice (some ⟨g5, 0, none⟩) n5 cap5) u6 st) := hide (by rw [hwA]; exact ⟨World.ownsRow.alloc (unhide HD).at0.rws.out _, World.ownsRow.alloc (unhide HD).at0.rws.wts _⟩)
  have HBA : Hid (Below w.heap.size w wA) := hide (by rw [hwA]; exact (unhide HD).at0.below.alloc (unhide HD).at0.below.size _)
  have _HTG : Hid (w.heap.size ≤ tb) := hide (by rw [htb]; exact (unhide HD).at0.below.size)
  have HTN : Hid (some tb ≠ (Value.slice (some ⟨g5, 0, none⟩) n5 cap5).ownBlock) := hide (fun e => by have := (World.ownsRow.lt (unhide HD).at0.rws.out _ e.symm).2; omega)
  have a0 := hbA.cell 0 rfl
  have a1 := hbA.cell 1 rfl
  have a2 := hbA.cell 2 rfl
  have a3 := hbA.cell 3 rfl
  have a4 := hbA.cell 4 rfl
  have HBK := hide hbA
  have hfzA := hbA.frozen 0
  obtain ⟨adA, capA, heA, hA⟩ := out_shape (w := wA) (by have := (unhide HRA).out; rw [← unhide HN5] at this; exact this) (unhide HN5)
  injection heA with e1 e2 e3
  subst e1
  obtain ⟨gA, hgA, _, _, hfzr, cA⟩ := hA n t (unhide HT)
  injection hgA with hgA
  injection hgA with hgA
  subst hgA
  have d0 : wA.cell? ⟨g5, n * 5, none⟩ = some (.int .i64 t.kind) := cA 0 (.int .i64 t.kind) rfl (by decide)
  have d1 : wA.cell? ⟨g5, n * 5 + 1, none⟩ = some (.string t.text) := cA 1 _ rfl (by decide)
  have d4 : wA.cell? ⟨g5, n * 5 + 4, none⟩ = some (.bool t.raw) := cA 4 (.bool t.raw) rfl (by decide)
  have hfz4 := hfzr (n * 5 + 4)
  clear cA hA hfzr e3
  clear hwA htb hbA
  go_wp2_with fail
  refine (rdigits_any (BA Wd) _ (by have := unhide HWS; omega) (by have := unhide HWS; omega)).mono ?_
  rintro en w3 ⟨rfl, hw3⟩
  rw [show w3 = wA from hw3, show digsB (BA Wd).data.toList = false by rw [BA_list]; exact unhide HDG]
  clear hw3
  go_wp2_with fail
  refine (rquotes_any (BA Wd) _ (by have := unhide HWS; omega)).mono ?_
  rintro en w3 ⟨rfl, hw3⟩
  rw [show w3 = wA from hw3, show anyQ (BA Wd).data.toList = anyQ Wd by rw [BA_list]]
  clear hw3
  go_upto_region 44 with fail
  obtain ⟨wB, hwB⟩ : ∃ x, x = wA.setCell ⟨g5, n * 5 + 4, none⟩ (.bool (anyQ Wd)) := ⟨_, rfl⟩
  rw [← hwB]
  have hne : tb ≠ g5 := fun e => unhide HTN (by rw [e]; rfl)
  have HRB : Hid (Rws w.heap.size wB (.slice (some ⟨g5, 0, none⟩) n5 cap5) u6 { st with rest := s.data.toList.drop p, toks := st.toks.modify n (fun t => { t with raw := anyQ Wd }) }) := hide (by
    have ho := (unhide HRA).out
    rw [← unhide HN5] at ho
    have hst := World.ownsRow.stored ho (n * 5 + 4) (.bool (anyQ Wd))
    have hfl := flatT_set (fun t => { t with raw := anyQ Wd }) 4 (.bool (anyQ Wd)) (by decide) (fun t => rfl) st.toks n (by have := unhide HN5; omega)
    rw [hwB]
    refine ⟨?_, (unhide HRA).wts.kept hst.2 (by have := row_ne (unhide HRA).wts (unhide HRA).out (by decide); simpa [Value.ownBlock] using this)⟩
    have h1 := hst.1
    rw [hfl] at h1
    show World.ownsRow _ _ _ _ _ (st.toks.modify n _).length (flatT (st.toks.modify n _))
    rw [List.length_modify, ← unhide HN5]
    exact h1)
  have HBB : Hid (Below w.heap.size w wB) := hide (by rw [hwB]; exact (unhide HBA).setCell hb5 _)
  have HKB : Hid (Blk wB tb 65 #[.int .i64 1, .string (BA Wd), .int .i64 (q : Int), .string ⟨#[]⟩, .bool false]) := hide (by rw [hwB]; exact (unhide HBK).other hne _)
  clear hwB a0 a1 a2 a3 a4 d0 d1 d4 hfz4 hfzA
  have b1 := (unhide HKB).cell 1 rfl
  go_wp2_with fail
  refine (bare_any (BA Wd) _ (by have := unhide HWS; omega)).mono ?_
  rintro en w6 ⟨rfl, b6⟩
  rw [show endL (BA Wd).data.toList = endL Wd by rw [BA_list]]
  have HR6 := hide ((unhide HRB).keep b6)
  have HB6 := hide ((unhide HBB).trans (b6.mono (unhide HBB).size))
  have HK6 := hide ((unhide HKB).below b6 (unhide HKB).lt)
  have hwl : st.wait.length ≤ s.size := by have := (unhide HD).at0.few.wait; omega
  clear b6 b1
  obtain ⟨E, hE⟩ : ∃ E, E = endL Wd := ⟨_, rfl⟩
  rw [← hE]
  have HE := hide hE
  clear hE
  go_wp2_with (first
    | (at_builtin; refine wpList_append_own _ rfl (.tmp 217) (.tmp 223) 60 rfl w.heap.size 67 iW _ 2 24 und_rwt hiW hzW0 hzW1 hzW2 rfl (by decide) _ _ _ rfl (World.ownsRow.alloc (unhide HR6).wts _) ⟨w6.heap.size, 0, none⟩ 1 1 [.int .i64 (n : Int), .string (BA E)] rfl rfl two_cells two_val ?c3 ?c4 ?c5 ?_)
    | go_in)
  case c3 => unfold maxLen; omega
  case c4 => omega
  case c5 => have := (unhide HB6).size; simp; omega
  intro u7 w7 hownW hgrowW _
  have HRW : Hid (Rws w.heap.size w7 (.slice (some ⟨g5, 0, none⟩) n5 cap5) u7 { st with rest := s.data.toList.drop p, toks := st.toks.modify n (fun t => { t with raw := anyQ Wd }), wait := st.wait ++ [⟨n, endL Wd, false⟩] }) := hide ⟨(World.ownsRow.alloc (unhide HR6).out _).kept hgrowW (row_ne (unhide HR6).out (unhide HR6).wts (by decide)), by
    show World.ownsRow _ _ _ _ _ (st.wait ++ [_]).length (flatW (st.wait ++ [_]))
    rw [List.length_append, flatW_snoc, ← unhide HE]
    exact hownW⟩
  have HBC : Hid (Below w.heap.size w w7) := hide (((unhide HB6).alloc (unhide HB6).size _).grown hgrowW (by have := (unhide HB6).size; simp; omega) (fun j hj => (unhide HR6).lt.2 j hj))
  have HK7 := ((unhide HK6).alloc _).kept hgrowW (type_ne (unhide HR6).wts (unhide HK6) (by decide))
  have k0 := HK7.cell 0 rfl
  have k1 := HK7.cell 1 rfl
  have k2 := HK7.cell 2 rfl
  have k3 := HK7.cell 3 rfl
  have k4 := HK7.cell 4 rfl
  clear HK7 hownW hgrowW
  go_wp2_with (first
    | (at_builtin; refine wpList_append_own _ rfl (.tmp 225) (.tmp 227) 30 rfl w.heap.size 65 iT _ 5 56 und_rtok hiT hzT0 hzT1 hzT2 rfl (by decide) _ _ _ rfl (World.ownsRow.alloc (unhide HRW).out _) ⟨w7.heap.size, 0, none⟩ 1 1 [.int .i64 1, .string (BA Wd), .int .i64 (q : Int), .string ⟨#[]⟩, .bool false] rfl rfl five_cells five_val ?c3 ?c4 ?c5 ?_)
    | go_in)
  case c3 => unfold maxLen; omega
  case c4 => omega
  case c5 => have := (unhide HBC).size; simp; omega
  intro v' w8 hownN hgrowN _
  have HRN := hide (Rws.push (kind := 1) (pos := (q : Int)) (unhide HRW) (by rw [show ({ st with rest := s.data.toList.drop p, toks := st.toks.modify n (fun t => { t with raw := anyQ Wd }), wait := st.wait ++ [⟨n, endL Wd, false⟩] } : LS).toks.length = st.toks.length from List.length_modify _ _ _]; exact hownN) hgrowN)
  have HBn : Hid (Below w.heap.size w w8) := hide (((unhide HBC).alloc (unhide HBC).size _).grown hgrowN (by have := (unhide HBC).size; simp; omega) (fun j hj => (unhide HRW).lt.1 j hj))
  clear hownN hgrowN
  have HS := hide ((unhide HD).next (unhide HST) (unhide HD).at0.flt (unhide HD).at0.blm rfl (unhide HRN) (unhide HBn))
  clear HRN
  go_wp2
  exact ⟨WI_intro ⟨p, _, G, rfl, HS⟩, show s.size - p < s.size - q by omega⟩

set_option maxRecDepth 1000000 in
set_option maxHeartbeats 40000000 in
theorem tl_60_h3 {s : ByteArray} {w wr : World} {T st : LS} {q p G : Nat} {Wd : List UInt8} {Q1 : Exit → Act → World → Prop} {u2 u3 u4 u5 u6 u8 u9 u10 u11 u12 u13 u14 u15 u17 u18 u19 u23 u24 u25 u26 u27 u28 u29 u30 u31 u32 u33 u34 u35 u36 u37 u38 u39 u40 u41 u42 u43 u44 u45 u46 u47 u48 u49 u50 u51 u52 u53 u54 u55 u56 u57 u58 u59 u60 u61 u62 u63 u64 u65 u66 u67 u68 u69 u70 u71 u72 u73 u74 u75 u76 u77 u78 u79 u80 u81 u82 u83 u84 u85 u86 u87 u88 u89 u90 u91 u92 u93 u94 u95 u96 u97 u98 u99 u100 u101 u102 u103 u104 u105 u106 u107 u108 u109 u110 u111 u112 u113 u114 u115 u116 u117 u118 u119 u120 u121 u122 u123 u124 u125 u126 u127 u128 u129 u130 u131 u132 u133 u134 u135 u136 u137 u138 u139 u140 u141 u142 u143 u144 u145 u146 u147 u148 u149 u150 u151 u152 u153 u154 u155 u156 u157 u158 u159 u160 u161 u162 u163 u164 u165 u166 u167 u168 u169 u170 u171 u172 u173 u174 u175 u176 u177 u178 u179 u180 u181 u182 u183 u184 u185 u186 u187 u188 u189 u190 u191 u192 u193 u194 u195 u196 u197 u198 u199 u200 u201 u202 u203 u204 u205 u206 u207 u208 u209 u210 u211 u212 u213 u214 u215 u216 u217 u218 u219 u220 u221 u222 u223 u224 u225 u226 u227 u228 : Value} (hs : s.size ≤ 100000) (HD : Hid (WEnd w s T st u5 u6 q p Wd G wr)) (hp : p < s.size) (H60 : Hid (s[p] = 60)) (HDG : Hid (digsB Wd = false)) {t : Tok} (HL : Hid (st.toks.getLast? = some t)) (HKD : Hid (t.kind = 2)) (HTX : Hid (t.text = BA [60, 60, 45])) :
    Code.wp Tryd.prog wdTail (Exit.inBlock 1 (Exit.then (fun a' w'' => WI w s T a' w'' ∧ Wmu s a' < s.size - q) Q1)) ⟨#[.string s, undef, u2, u3, u4, u5, u6, .int .i64 (p : Int), u8, u9, u10, u11, u12, u13, u14, u15, .int .i64 (q : Int), u17, u18, u19, .string s, .int .i64 (s.size : Int), .bool false, u23, u24, u25, u26, u27, u28, u29, u30, u31, u32, u33, u34, u35, u36, u37, u38, u39, u40, u41, u42, u43, u44, u45, u46, u47, u48, u49, u50, u51, u52, u53, u54, u55, u56, u57, u58, u59, u60, u61, u62, u63, u64, u65, u66, u67, u68, u69, u70, u71, u72, u73, u74, u75, u76, u77, u78, u79, u80, u81, u82, u83, u84, u85, u86, u87, u88, u89, u90, u91, u92, u93, u94, u95, u96, u97, u98, u99, u100, u101, u102, u103, u104, u105, u106, u107, u108, u109, u110, u111, u112, u113, u114, u115, u116, u117, u118, u119, u120, u121, u122, u123, u124, u125, u126, u127, u128, u129, u130, u131, u132, u133, u134, u135, u136, u137, u138, u139, u140, u141, u142, u143, u144, u145, u146, u147, u148, u149, u150, u151, u152, u153, u154, u155, u156, u157, u158, u159, u160, u161, u162, u163, u164, u165, u166, u167, u168, u169, u170, u171, u172, u173, u174, u175, u176, u177, u178, u179, u180, u181, u182, u183, u184, u185, u186, u187, u188, u189, u190, u191, u192, u193, u194, u195, u196, u197, u198, u199, u200, u201, u202, u203, u204, u205, u206, u207, u208, u209, u210, u211, u212, u213, u214, u215, u216, u217, u218, u219, u220, u221, u222, u223, u224, u225, u226, u227, u228, undef, undef, undef, undef, undef, undef, undef, undef, undef, undef, undef, undef, undef], []⟩ wr := by
  conv => arg 2; whnf
  obtain ⟨iT, hiT, hzT0, hzT1, hzT2⟩ := info_of info_rtok
  have hrw := (unhide HD).at0.rws
  have htl : st.toks.length ≤ s.size := (unhide HD).at0.few.toks
  obtain ⟨n5, hn5⟩ : ∃ n, n = st.toks.length := ⟨_, rfl⟩
  have hout := hrw.out
  rw [← hn5] at hout
  obtain ⟨ad5, cap5, he5, hsh5⟩ := out_shape hout hn5
  subst he5
  have hql := (unhide HD).qlt
  have hpl := (unhide HD).ple
  have hq0 : (0 : Int) ≤ (q : Int) := by omega
  have hp0 : (0 : Int) ≤ (p : Int) := by omega
  have hqp : (q : Int) ≤ (p : Int) := by omega
  have hps : (p : Int) ≤ (s.size : Int) := by omega
  have hex := (unhide HD).word
  have hwsz : (BA Wd).size = p - q := by
    rw [← (unhide HD).wlen]
    rfl
  have HWS := hide hwsz
  obtain ⟨n, hn⟩ : ∃ n, n5 = n + 1 := ⟨n5 - 1, by
    have : st.toks ≠ [] := fun e => by rw [e] at HL; exact absurd (unhide HL) (by simp)
    have := List.length_pos_iff.2 this
    omega⟩
  have ht : st.toks[n]? = some t := by
    have h1 := unhide HL
    rw [List.getLast?_eq_getElem?, ← hn5, hn] at h1
    exact h1
  have hwn : IntKind.i64.wrap ((n5 : Int) - 1) = (n : Int) := by rw [IntKind.wrap_i64]; omega
  have hn0 : (0 : Int) ≤ (n : Int) := by omega
  have hnl : (n : Int) < (n5 : Int) := by omega
  have hnn : n5 ≤ n + 1 ∧ n < n5 := by omega
  obtain ⟨g5, hg5, hb5, _, _, _⟩ := hsh5 n t ht
  subst hg5
  have HT := hide ht
  clear ht hn
  have hkd : (t.kind == 2) = true := by rw [unhide HKD]; rfl
  have hx1 : (t.text.toList == [60, 60]) = false := by rw [unhide HTX, ByteArray.toList_eq, BA_list]; decide
  have hx2 : (t.text.toList == [60, 60, 45]) = true := by rw [unhide HTX, ByteArray.toList_eq, BA_list]; decide
  have hp' : (p : Int) < (s.size : Int) := by omega
  have v60 : ((s[p].toNat : Int) == 60) = true := by rw [unhide H60]; rfl
  have HIO : Hid ((digsB Wd && ((s.data.toList.drop p).head? == some 60 || (s.data.toList.drop p).head? == some 62)) = false) := hide (by
    rw [unhide HDG]; rfl)
  have HST : Hid (stepR s.size st = ({ st with rest := s.data.toList.drop p, toks := st.toks.modify n (fun t => { t with raw := anyQ Wd }), wait := st.wait ++ [⟨n, endL Wd, true⟩] } : LS).add 1 Wd (q : Int)) := hide (by
    rw [(unhide HD).step, unhide HIO]
    simp only [Bool.false_eq_true, if_false]
    congr 1
    unfold awaitL
    rw [show ({ st with rest := s.data.toList.drop p } : LS).toks.getLast? = some t from unhide HL]
    simp only
    rw [if_pos (.inr (unhide HTX)), show (t.text == BA [60, 60, 45]) = true by rw [unhide HTX]; decide, show st.toks.length - 1 = n by omega]
    rfl)
  obtain ⟨iW, hiW, hzW0, hzW1, hzW2⟩ := info_of info_rwt
  have HN5 := hide hn5
  have HSH := hide hsh5
  clear hrw hout hsh5 hwsz hn5
  go_upto_region 40 with fail
  clear hex
  obtain ⟨tb, htb⟩ : ∃ x, x = wr.heap.size := ⟨_, rfl⟩
  obtain ⟨wA, hwA⟩ : ∃ x, x = wr.alloc (.cells #[.int .i64 1, .string (BA Wd), .int .i64 (q : Int), .string ⟨#[]⟩, .bool false] 65) := ⟨_, rfl⟩
  rw [← htb, ← hwA]
  have hbA : Blk wA tb 65 #[.int .i64 1, .string (BA Wd), .int .i64 (q : Int), .string ⟨#[]⟩, .bool false] := by rw [hwA, htb]; exact Blk.new wr _ _
  have HRA : Hid (Rws w.heap.size wA (.slice (some ⟨g5, 0, none⟩) n5 cap5) u6 st) := hide (by rw [hwA]; exact ⟨World.ownsRow.alloc (unhide HD).at0.rws.out _, World.ownsRow.alloc (unhide HD).at0.rws.wts _⟩)
  have HBA : Hid (Below w.heap.size w wA) := hide (by rw [hwA]; exact (unhide HD).at0.below.alloc (unhide HD).at0.below.size _)
  have _HTG : Hid (w.heap.size ≤ tb) := hide (by rw [htb]; exact (unhide HD).at0.below.size)
  have HTN : Hid (some tb ≠ (Value.slice (some ⟨g5, 0, none⟩) n5 cap5).ownBlock) := hide (fun e => by have := (World.ownsRow.lt (unhide HD).at0.rws.out _ e.symm).2; omega)
  have a0 := hbA.cell 0 rfl
  have a1 := hbA.cell 1 rfl
  have a2 := hbA.cell 2 rfl
  have a3 := hbA.cell 3 rfl
  have a4 := hbA.cell 4 rfl
  have HBK := hide hbA
  have hfzA := hbA.frozen 0
  obtain ⟨adA, capA, heA, hA⟩ := out_shape (w := wA) (by have := (unhide HRA).out; rw [← unhide HN5] at this; exact this) (unhide HN5)
  injection heA with e1 e2 e3
  subst e1
  obtain ⟨gA, hgA, _, _, hfzr, cA⟩ := hA n t (unhide HT)
  injection hgA with hgA
  injection hgA with hgA
  subst hgA
  have d0 : wA.cell? ⟨g5, n * 5, none⟩ = some (.int .i64 t.kind) := cA 0 (.int .i64 t.kind) rfl (by decide)
  have d1 : wA.cell? ⟨g5, n * 5 + 1, none⟩ = some (.string t.text) := cA 1 _ rfl (by decide)
  have d4 : wA.cell? ⟨g5, n * 5 + 4, none⟩ = some (.bool t.raw) := cA 4 (.bool t.raw) rfl (by decide)
  have hfz4 := hfzr (n * 5 + 4)
  clear cA hA hfzr e3
  clear hwA htb hbA
  go_wp2_with fail
  refine (rdigits_any (BA Wd) _ (by have := unhide HWS; omega) (by have := unhide HWS; omega)).mono ?_
  rintro en w3 ⟨rfl, hw3⟩
  rw [show w3 = wA from hw3, show digsB (BA Wd).data.toList = false by rw [BA_list]; exact unhide HDG]
  clear hw3
  go_wp2_with fail
  refine (rquotes_any (BA Wd) _ (by have := unhide HWS; omega)).mono ?_
  rintro en w3 ⟨rfl, hw3⟩
  rw [show w3 = wA from hw3, show anyQ (BA Wd).data.toList = anyQ Wd by rw [BA_list]]
  clear hw3
  go_upto_region 44 with fail
  obtain ⟨wB, hwB⟩ : ∃ x, x = wA.setCell ⟨g5, n * 5 + 4, none⟩ (.bool (anyQ Wd)) := ⟨_, rfl⟩
  rw [← hwB]
  have hne : tb ≠ g5 := fun e => unhide HTN (by rw [e]; rfl)
  have HRB : Hid (Rws w.heap.size wB (.slice (some ⟨g5, 0, none⟩) n5 cap5) u6 { st with rest := s.data.toList.drop p, toks := st.toks.modify n (fun t => { t with raw := anyQ Wd }) }) := hide (by
    have ho := (unhide HRA).out
    rw [← unhide HN5] at ho
    have hst := World.ownsRow.stored ho (n * 5 + 4) (.bool (anyQ Wd))
    have hfl := flatT_set (fun t => { t with raw := anyQ Wd }) 4 (.bool (anyQ Wd)) (by decide) (fun t => rfl) st.toks n (by have := unhide HN5; omega)
    rw [hwB]
    refine ⟨?_, (unhide HRA).wts.kept hst.2 (by have := row_ne (unhide HRA).wts (unhide HRA).out (by decide); simpa [Value.ownBlock] using this)⟩
    have h1 := hst.1
    rw [hfl] at h1
    show World.ownsRow _ _ _ _ _ (st.toks.modify n _).length (flatT (st.toks.modify n _))
    rw [List.length_modify, ← unhide HN5]
    exact h1)
  have HBB : Hid (Below w.heap.size w wB) := hide (by rw [hwB]; exact (unhide HBA).setCell hb5 _)
  have HKB : Hid (Blk wB tb 65 #[.int .i64 1, .string (BA Wd), .int .i64 (q : Int), .string ⟨#[]⟩, .bool false]) := hide (by rw [hwB]; exact (unhide HBK).other hne _)
  clear hwB a0 a1 a2 a3 a4 d0 d1 d4 hfz4 hfzA
  have b1 := (unhide HKB).cell 1 rfl
  go_wp2_with fail
  refine (bare_any (BA Wd) _ (by have := unhide HWS; omega)).mono ?_
  rintro en w6 ⟨rfl, b6⟩
  rw [show endL (BA Wd).data.toList = endL Wd by rw [BA_list]]
  have HR6 := hide ((unhide HRB).keep b6)
  have HB6 := hide ((unhide HBB).trans (b6.mono (unhide HBB).size))
  have HK6 := hide ((unhide HKB).below b6 (unhide HKB).lt)
  have hwl : st.wait.length ≤ s.size := by have := (unhide HD).at0.few.wait; omega
  clear b6 b1
  obtain ⟨E, hE⟩ : ∃ E, E = endL Wd := ⟨_, rfl⟩
  rw [← hE]
  have HE := hide hE
  clear hE
  go_wp2_with (first
    | (at_builtin; refine wpList_append_own _ rfl (.tmp 217) (.tmp 223) 60 rfl w.heap.size 67 iW _ 2 24 und_rwt hiW hzW0 hzW1 hzW2 rfl (by decide) _ _ _ rfl (World.ownsRow.alloc (unhide HR6).wts _) ⟨w6.heap.size, 0, none⟩ 1 1 [.int .i64 (n : Int), .string (BA E)] rfl rfl two_cells two_val ?c3 ?c4 ?c5 ?_)
    | go_in)
  case c3 => unfold maxLen; omega
  case c4 => omega
  case c5 => have := (unhide HB6).size; simp; omega
  intro u7 w7 hownW hgrowW _
  have HRW : Hid (Rws w.heap.size w7 (.slice (some ⟨g5, 0, none⟩) n5 cap5) u7 { st with rest := s.data.toList.drop p, toks := st.toks.modify n (fun t => { t with raw := anyQ Wd }), wait := st.wait ++ [⟨n, endL Wd, true⟩] }) := hide ⟨(World.ownsRow.alloc (unhide HR6).out _).kept hgrowW (row_ne (unhide HR6).out (unhide HR6).wts (by decide)), by
    show World.ownsRow _ _ _ _ _ (st.wait ++ [_]).length (flatW (st.wait ++ [_]))
    rw [List.length_append, flatW_snoc, ← unhide HE]
    exact hownW⟩
  have HBC : Hid (Below w.heap.size w w7) := hide (((unhide HB6).alloc (unhide HB6).size _).grown hgrowW (by have := (unhide HB6).size; simp; omega) (fun j hj => (unhide HR6).lt.2 j hj))
  have HK7 := ((unhide HK6).alloc _).kept hgrowW (type_ne (unhide HR6).wts (unhide HK6) (by decide))
  have k0 := HK7.cell 0 rfl
  have k1 := HK7.cell 1 rfl
  have k2 := HK7.cell 2 rfl
  have k3 := HK7.cell 3 rfl
  have k4 := HK7.cell 4 rfl
  clear HK7 hownW hgrowW
  go_wp2_with (first
    | (at_builtin; refine wpList_append_own _ rfl (.tmp 225) (.tmp 227) 30 rfl w.heap.size 65 iT _ 5 56 und_rtok hiT hzT0 hzT1 hzT2 rfl (by decide) _ _ _ rfl (World.ownsRow.alloc (unhide HRW).out _) ⟨w7.heap.size, 0, none⟩ 1 1 [.int .i64 1, .string (BA Wd), .int .i64 (q : Int), .string ⟨#[]⟩, .bool false] rfl rfl five_cells five_val ?c3 ?c4 ?c5 ?_)
    | go_in)
  case c3 => unfold maxLen; omega
  case c4 => omega
  case c5 => have := (unhide HBC).size; simp; omega
  intro v' w8 hownN hgrowN _
  have HRN := hide (Rws.push (kind := 1) (pos := (q : Int)) (unhide HRW) (by rw [show ({ st with rest := s.data.toList.drop p, toks := st.toks.modify n (fun t => { t with raw := anyQ Wd }), wait := st.wait ++ [⟨n, endL Wd, true⟩] } : LS).toks.length = st.toks.length from List.length_modify _ _ _]; exact hownN) hgrowN)
  have HBn : Hid (Below w.heap.size w w8) := hide (((unhide HBC).alloc (unhide HBC).size _).grown hgrowN (by have := (unhide HBC).size; simp; omega) (fun j hj => (unhide HRW).lt.1 j hj))
  clear hownN hgrowN
  have HS := hide ((unhide HD).next (unhide HST) (unhide HD).at0.flt (unhide HD).at0.blm rfl (unhide HRN) (unhide HBn))
  clear HRN
  go_wp2
  exact ⟨WI_intro ⟨p, _, G, rfl, HS⟩, show s.size - p < s.size - q by omega⟩

end Go.Proofs.YtlmpdfeidjnmnaaDoor

/- The document's 'Lex': a Word behind << or <<-. -/
namespace Go.Proofs.YtlmpdfeidjnmnaaDoor
open Go.RowKit

set_option maxRecDepth 1000000 in
set_option maxHeartbeats 40000000 in
theorem tl_62_h2 {s : ByteArray} {w wr : World} {T st : LS} {q p G : Nat} {Wd : List UInt8} {Q1 : Exit → Act → World → Prop} {u2 u3 u4 u5 u6 u8 u9 u10 u11 u12 u13 u14 u15 u17 u18 u19 u23 u24 u25 u26 u27 u28 u29 u30 u31 u32 u33 u34 u35 u36 u37 u38 u39 u40 u41 u42 u43 u44 u45 u46 u47 u48 u49 u50 u51 u52 u53 u54 u55 u56 u57 u58 u59 u60 u61 u62 u63 u64 u65 u66 u67 u68 u69 u70 u71 u72 u73 u74 u75 u76 u77 u78 u79 u80 u81 u82 u83 u84 u85 u86 u87 u88 u89 u90 u91 u92 u93 u94 u95 u96 u97 u98 u99 u100 u101 u102 u103 u104 u105 u106 u107 u108 u109 u110 u111 u112 u113 u114 u115 u116 u117 u118 u119 u120 u121 u122 u123 u124 u125 u126 u127 u128 u129 u130 u131 u132 u133 u134 u135 u136 u137 u138 u139 u140 u141 u142 u143 u144 u145 u146 u147 u148 u149 u150 u151 u152 u153 u154 u155 u156 u157 u158 u159 u160 u161 u162 u163 u164 u165 u166 u167 u168 u169 u170 u171 u172 u173 u174 u175 u176 u177 u178 u179 u180 u181 u182 u183 u184 u185 u186 u187 u188 u189 u190 u191 u192 u193 u194 u195 u196 u197 u198 u199 u200 u201 u202 u203 u204 u205 u206 u207 u208 u209 u210 u211 u212 u213 u214 u215 u216 u217 u218 u219 u220 u221 u222 u223 u224 u225 u226 u227 u228 : Value} (hs : s.size ≤ 100000) (HD : Hid (WEnd w s T st u5 u6 q p Wd G wr)) (hp : p < s.size) (H60 : Hid (s[p] = 62)) (HDG : Hid (digsB Wd = false)) {t : Tok} (HL : Hid (st.toks.getLast? = some t)) (HKD : Hid (t.kind = 2)) (HTX : Hid (t.text = BA [60, 60])) :
    Code.wp Tryd.prog wdTail (Exit.inBlock 1 (Exit.then (fun a' w'' => WI w s T a' w'' ∧ Wmu s a' < s.size - q) Q1)) ⟨#[.string s, undef, u2, u3, u4, u5, u6, .int .i64 (p : Int), u8, u9, u10, u11, u12, u13, u14, u15, .int .i64 (q : Int), u17, u18, u19, .string s, .int .i64 (s.size : Int), .bool false, u23, u24, u25, u26, u27, u28, u29, u30, u31, u32, u33, u34, u35, u36, u37, u38, u39, u40, u41, u42, u43, u44, u45, u46, u47, u48, u49, u50, u51, u52, u53, u54, u55, u56, u57, u58, u59, u60, u61, u62, u63, u64, u65, u66, u67, u68, u69, u70, u71, u72, u73, u74, u75, u76, u77, u78, u79, u80, u81, u82, u83, u84, u85, u86, u87, u88, u89, u90, u91, u92, u93, u94, u95, u96, u97, u98, u99, u100, u101, u102, u103, u104, u105, u106, u107, u108, u109, u110, u111, u112, u113, u114, u115, u116, u117, u118, u119, u120, u121, u122, u123, u124, u125, u126, u127, u128, u129, u130, u131, u132, u133, u134, u135, u136, u137, u138, u139, u140, u141, u142, u143, u144, u145, u146, u147, u148, u149, u150, u151, u152, u153, u154, u155, u156, u157, u158, u159, u160, u161, u162, u163, u164, u165, u166, u167, u168, u169, u170, u171, u172, u173, u174, u175, u176, u177, u178, u179, u180, u181, u182, u183, u184, u185, u186, u187, u188, u189, u190, u191, u192, u193, u194, u195, u196, u197, u198, u199, u200, u201, u202, u203, u204, u205, u206, u207, u208, u209, u210, u211, u212, u213, u214, u215, u216, u217, u218, u219, u220, u221, u222, u223, u224, u225, u226, u227, u228, undef, undef, undef, undef, undef, undef, undef, undef, undef, undef, undef, undef, undef], []⟩ wr := by
  conv => arg 2; whnf
  obtain ⟨iT, hiT, hzT0, hzT1, hzT2⟩ := info_of info_rtok
  have hrw := (unhide HD).at0.rws
  have htl : st.toks.length ≤ s.size := (unhide HD).at0.few.toks
  obtain ⟨n5, hn5⟩ : ∃ n, n = st.toks.length := ⟨_, rfl⟩
  have hout := hrw.out
  rw [← hn5] at hout
  obtain ⟨ad5, cap5, he5, hsh5⟩ := out_shape hout hn5
  subst he5
  have hql := (unhide HD).qlt
  have hpl := (unhide HD).ple
  have hq0 : (0 : Int) ≤ (q : Int) := by omega
  have hp0 : (0 : Int) ≤ (p : Int) := by omega
  have hqp : (q : Int) ≤ (p : Int) := by omega
  have hps : (p : Int) ≤ (s.size : Int) := by omega
  have hex := (unhide HD).word
  have hwsz : (BA Wd).size = p - q := by
    rw [← (unhide HD).wlen]
    rfl
  have HWS := hide hwsz
  obtain ⟨n, hn⟩ : ∃ n, n5 = n + 1 := ⟨n5 - 1, by
    have : st.toks ≠ [] := fun e => by rw [e] at HL; exact absurd (unhide HL) (by simp)
    have := List.length_pos_iff.2 this
    omega⟩
  have ht : st.toks[n]? = some t := by
    have h1 := unhide HL
    rw [List.getLast?_eq_getElem?, ← hn5, hn] at h1
    exact h1
  have hwn : IntKind.i64.wrap ((n5 : Int) - 1) = (n : Int) := by rw [IntKind.wrap_i64]; omega
  have hn0 : (0 : Int) ≤ (n : Int) := by omega
  have hnl : (n : Int) < (n5 : Int) := by omega
  have hnn : n5 ≤ n + 1 ∧ n < n5 := by omega
  obtain ⟨g5, hg5, hb5, _, _, _⟩ := hsh5 n t ht
  subst hg5
  have HT := hide ht
  clear ht hn
  have hkd : (t.kind == 2) = true := by rw [unhide HKD]; rfl
  have hx1 : (t.text.toList == [60, 60]) = true := by rw [unhide HTX, ByteArray.toList_eq, BA_list]; rfl
  have hp' : (p : Int) < (s.size : Int) := by omega
  have v60 : ((s[p].toNat : Int) == 60) = false := by rw [unhide H60]; rfl
  have v62 : ((s[p].toNat : Int) == 62) = true := by rw [unhide H60]; rfl
  have HIO : Hid ((digsB Wd && ((s.data.toList.drop p).head? == some 60 || (s.data.toList.drop p).head? == some 62)) = false) := hide (by
    rw [unhide HDG]; rfl)
  have HST : Hid (stepR s.size st = ({ st with rest := s.data.toList.drop p, toks := st.toks.modify n (fun t => { t with raw := anyQ Wd }), wait := st.wait ++ [⟨n, endL Wd, false⟩] } : LS).add 1 Wd (q : Int)) := hide (by
    rw [(unhide HD).step, unhide HIO]
    simp only [Bool.false_eq_true, if_false]
    congr 1
    unfold awaitL
    rw [show ({ st with rest := s.data.toList.drop p } : LS).toks.getLast? = some t from unhide HL]
    simp only
    rw [if_pos (.inl (unhide HTX)), show (t.text == BA [60, 60, 45]) = false by rw [unhide HTX]; decide, show st.toks.length - 1 = n by omega]
    rfl)
  obtain ⟨iW, hiW, hzW0, hzW1, hzW2⟩ := info_of info_rwt
  have HN5 := hide hn5
  have HSH := hide hsh5
  clear hrw hout hsh5 hwsz hn5
  go_upto_region 40 with fail
  clear hex
  obtain ⟨tb, htb⟩ : ∃ x, x = wr.heap.size := ⟨_, rfl⟩
  obtain ⟨wA, hwA⟩ : ∃ x, x = wr.alloc (.cells #[.int .i64 1, .string (BA Wd), .int .i64 (q : Int), .string ⟨#[]⟩, .bool false] 65) := ⟨_, rfl⟩
  rw [← htb, ← hwA]
  have hbA : Blk wA tb 65 #[.int .i64 1, .string (BA Wd), .int .i64 (q : Int), .string ⟨#[]⟩, .bool false] := by rw [hwA, htb]; exact Blk.new wr _ _
  have HRA : Hid (Rws w.heap.size wA (.slice (some ⟨g5, 0, none⟩) n5 cap5) u6 st) := hide (by rw [hwA]; exact ⟨World.ownsRow.alloc (unhide HD).at0.rws.out _, World.ownsRow.alloc (unhide HD).at0.rws.wts _⟩)
  have HBA : Hid (Below w.heap.size w wA) := hide (by rw [hwA]; exact (unhide HD).at0.below.alloc (unhide HD).at0.below.size _)
  have _HTG : Hid (w.heap.size ≤ tb) := hide (by rw [htb]; exact (unhide HD).at0.below.size)
  have HTN : Hid (some tb ≠ (Value.slice (some ⟨g5, 0, none⟩) n5 cap5).ownBlock) := hide (fun e => by have := (World.ownsRow.lt (unhide HD).at0.rws.out _ e.symm).2; omega)
  have a0 := hbA.cell 0 rfl
  have a1 := hbA.cell 1 rfl
  have a2 := hbA.cell 2 rfl
  have a3 := hbA.cell 3 rfl
  have a4 := hbA.cell 4 rfl
  have HBK := hide hbA
  have hfzA := hbA.frozen 0
  obtain ⟨adA, capA, heA, hA⟩ := out_shape (w := wA) (by have := (unhide HRA).out; rw [← unhide HN5] at this; exact this) (unhide HN5)
  injection heA with e1 e2 e3
  subst e1
  obtain ⟨gA, hgA, _, _, hfzr, cA⟩ := hA n t (unhide HT)
  injection hgA with hgA
  injection hgA with hgA
  subst hgA
  have d0 : wA.cell? ⟨g5, n * 5, none⟩ = some (.int .i64 t.kind) := cA 0 (.int .i64 t.kind) rfl (by decide)
  have d1 : wA.cell? ⟨g5, n * 5 + 1, none⟩ = some (.string t.text) := cA 1 _ rfl (by decide)
  have d4 : wA.cell? ⟨g5, n * 5 + 4, none⟩ = some (.bool t.raw) := cA 4 (.bool t.raw) rfl (by decide)
  have hfz4 := hfzr (n * 5 + 4)
  clear cA hA hfzr e3
  clear hwA htb hbA
  go_wp2_with fail
  refine (rdigits_any (BA Wd) _ (by have := unhide HWS; omega) (by have := unhide HWS; omega)).mono ?_
  rintro en w3 ⟨rfl, hw3⟩
  rw [show w3 = wA from hw3, show digsB (BA Wd).data.toList = false by rw [BA_list]; exact unhide HDG]
  clear hw3
  go_wp2_with fail
  refine (rquotes_any (BA Wd) _ (by have := unhide HWS; omega)).mono ?_
  rintro en w3 ⟨rfl, hw3⟩
  rw [show w3 = wA from hw3, show anyQ (BA Wd).data.toList = anyQ Wd by rw [BA_list]]
  clear hw3
  go_upto_region 44 with fail
  obtain ⟨wB, hwB⟩ : ∃ x, x = wA.setCell ⟨g5, n * 5 + 4, none⟩ (.bool (anyQ Wd)) := ⟨_, rfl⟩
  rw [← hwB]
  have hne : tb ≠ g5 := fun e => unhide HTN (by rw [e]; rfl)
  have HRB : Hid (Rws w.heap.size wB (.slice (some ⟨g5, 0, none⟩) n5 cap5) u6 { st with rest := s.data.toList.drop p, toks := st.toks.modify n (fun t => { t with raw := anyQ Wd }) }) := hide (by
    have ho := (unhide HRA).out
    rw [← unhide HN5] at ho
    have hst := World.ownsRow.stored ho (n * 5 + 4) (.bool (anyQ Wd))
    have hfl := flatT_set (fun t => { t with raw := anyQ Wd }) 4 (.bool (anyQ Wd)) (by decide) (fun t => rfl) st.toks n (by have := unhide HN5; omega)
    rw [hwB]
    refine ⟨?_, (unhide HRA).wts.kept hst.2 (by have := row_ne (unhide HRA).wts (unhide HRA).out (by decide); simpa [Value.ownBlock] using this)⟩
    have h1 := hst.1
    rw [hfl] at h1
    show World.ownsRow _ _ _ _ _ (st.toks.modify n _).length (flatT (st.toks.modify n _))
    rw [List.length_modify, ← unhide HN5]
    exact h1)
  have HBB : Hid (Below w.heap.size w wB) := hide (by rw [hwB]; exact (unhide HBA).setCell hb5 _)
  have HKB : Hid (Blk wB tb 65 #[.int .i64 1, .string (BA Wd), .int .i64 (q : Int), .string ⟨#[]⟩, .bool false]) := hide (by rw [hwB]; exact (unhide HBK).other hne _)
  clear hwB a0 a1 a2 a3 a4 d0 d1 d4 hfz4 hfzA
  have b1 := (unhide HKB).cell 1 rfl
  go_wp2_with fail
  refine (bare_any (BA Wd) _ (by have := unhide HWS; omega)).mono ?_
  rintro en w6 ⟨rfl, b6⟩
  rw [show endL (BA Wd).data.toList = endL Wd by rw [BA_list]]
  have HR6 := hide ((unhide HRB).keep b6)
  have HB6 := hide ((unhide HBB).trans (b6.mono (unhide HBB).size))
  have HK6 := hide ((unhide HKB).below b6 (unhide HKB).lt)
  have hwl : st.wait.length ≤ s.size := by have := (unhide HD).at0.few.wait; omega
  clear b6 b1
  obtain ⟨E, hE⟩ : ∃ E, E = endL Wd := ⟨_, rfl⟩
  rw [← hE]
  have HE := hide hE
  clear hE
  go_wp2_with (first
    | (at_builtin; refine wpList_append_own _ rfl (.tmp 217) (.tmp 223) 60 rfl w.heap.size 67 iW _ 2 24 und_rwt hiW hzW0 hzW1 hzW2 rfl (by decide) _ _ _ rfl (World.ownsRow.alloc (unhide HR6).wts _) ⟨w6.heap.size, 0, none⟩ 1 1 [.int .i64 (n : Int), .string (BA E)] rfl rfl two_cells two_val ?c3 ?c4 ?c5 ?_)
    | go_in)
  case c3 => unfold maxLen; omega
  case c4 => omega
  case c5 => have := (unhide HB6).size; simp; omega
  intro u7 w7 hownW hgrowW _
  have HRW : Hid (Rws w.heap.size w7 (.slice (some ⟨g5, 0, none⟩) n5 cap5) u7 { st with rest := s.data.toList.drop p, toks := st.toks.modify n (fun t => { t with raw := anyQ Wd }), wait := st.wait ++ [⟨n, endL Wd, false⟩] }) := hide ⟨(World.ownsRow.alloc (unhide HR6).out _).kept hgrowW (row_ne (unhide HR6).out (unhide HR6).wts (by decide)), by
    show World.ownsRow _ _ _ _ _ (st.wait ++ [_]).length (flatW (st.wait ++ [_]))
    rw [List.length_append, flatW_snoc, ← unhide HE]
    exact hownW⟩
  have HBC : Hid (Below w.heap.size w w7) := hide (((unhide HB6).alloc (unhide HB6).size _).grown hgrowW (by have := (unhide HB6).size; simp; omega) (fun j hj => (unhide HR6).lt.2 j hj))
  have HK7 := ((unhide HK6).alloc _).kept hgrowW (type_ne (unhide HR6).wts (unhide HK6) (by decide))
  have k0 := HK7.cell 0 rfl
  have k1 := HK7.cell 1 rfl
  have k2 := HK7.cell 2 rfl
  have k3 := HK7.cell 3 rfl
  have k4 := HK7.cell 4 rfl
  clear HK7 hownW hgrowW
  go_wp2_with (first
    | (at_builtin; refine wpList_append_own _ rfl (.tmp 225) (.tmp 227) 30 rfl w.heap.size 65 iT _ 5 56 und_rtok hiT hzT0 hzT1 hzT2 rfl (by decide) _ _ _ rfl (World.ownsRow.alloc (unhide HRW).out _) ⟨w7.heap.size, 0, none⟩ 1 1 [.int .i64 1, .string (BA Wd), .int .i64 (q : Int), .string ⟨#[]⟩, .bool false] rfl rfl five_cells five_val ?c3 ?c4 ?c5 ?_)
    | go_in)
  case c3 => unfold maxLen; omega
  case c4 => omega
  case c5 => have := (unhide HBC).size; simp; omega
  intro v' w8 hownN hgrowN _
  have HRN := hide (Rws.push (kind := 1) (pos := (q : Int)) (unhide HRW) (by rw [show ({ st with rest := s.data.toList.drop p, toks := st.toks.modify n (fun t => { t with raw := anyQ Wd }), wait := st.wait ++ [⟨n, endL Wd, false⟩] } : LS).toks.length = st.toks.length from List.length_modify _ _ _]; exact hownN) hgrowN)
  have HBn : Hid (Below w.heap.size w w8) := hide (((unhide HBC).alloc (unhide HBC).size _).grown hgrowN (by have := (unhide HBC).size; simp; omega) (fun j hj => (unhide HRW).lt.1 j hj))
  clear hownN hgrowN
  have HS := hide ((unhide HD).next (unhide HST) (unhide HD).at0.flt (unhide HD).at0.blm rfl (unhide HRN) (unhide HBn))
  clear HRN
  go_wp2
  exact ⟨WI_intro ⟨p, _, G, rfl, HS⟩, show s.size - p < s.size - q by omega⟩

set_option maxRecDepth 1000000 in
set_option maxHeartbeats 40000000 in
theorem tl_62_h3 {s : ByteArray} {w wr : World} {T st : LS} {q p G : Nat} {Wd : List UInt8} {Q1 : Exit → Act → World → Prop} {u2 u3 u4 u5 u6 u8 u9 u10 u11 u12 u13 u14 u15 u17 u18 u19 u23 u24 u25 u26 u27 u28 u29 u30 u31 u32 u33 u34 u35 u36 u37 u38 u39 u40 u41 u42 u43 u44 u45 u46 u47 u48 u49 u50 u51 u52 u53 u54 u55 u56 u57 u58 u59 u60 u61 u62 u63 u64 u65 u66 u67 u68 u69 u70 u71 u72 u73 u74 u75 u76 u77 u78 u79 u80 u81 u82 u83 u84 u85 u86 u87 u88 u89 u90 u91 u92 u93 u94 u95 u96 u97 u98 u99 u100 u101 u102 u103 u104 u105 u106 u107 u108 u109 u110 u111 u112 u113 u114 u115 u116 u117 u118 u119 u120 u121 u122 u123 u124 u125 u126 u127 u128 u129 u130 u131 u132 u133 u134 u135 u136 u137 u138 u139 u140 u141 u142 u143 u144 u145 u146 u147 u148 u149 u150 u151 u152 u153 u154 u155 u156 u157 u158 u159 u160 u161 u162 u163 u164 u165 u166 u167 u168 u169 u170 u171 u172 u173 u174 u175 u176 u177 u178 u179 u180 u181 u182 u183 u184 u185 u186 u187 u188 u189 u190 u191 u192 u193 u194 u195 u196 u197 u198 u199 u200 u201 u202 u203 u204 u205 u206 u207 u208 u209 u210 u211 u212 u213 u214 u215 u216 u217 u218 u219 u220 u221 u222 u223 u224 u225 u226 u227 u228 : Value} (hs : s.size ≤ 100000) (HD : Hid (WEnd w s T st u5 u6 q p Wd G wr)) (hp : p < s.size) (H60 : Hid (s[p] = 62)) (HDG : Hid (digsB Wd = false)) {t : Tok} (HL : Hid (st.toks.getLast? = some t)) (HKD : Hid (t.kind = 2)) (HTX : Hid (t.text = BA [60, 60, 45])) :
    Code.wp Tryd.prog wdTail (Exit.inBlock 1 (Exit.then (fun a' w'' => WI w s T a' w'' ∧ Wmu s a' < s.size - q) Q1)) ⟨#[.string s, undef, u2, u3, u4, u5, u6, .int .i64 (p : Int), u8, u9, u10, u11, u12, u13, u14, u15, .int .i64 (q : Int), u17, u18, u19, .string s, .int .i64 (s.size : Int), .bool false, u23, u24, u25, u26, u27, u28, u29, u30, u31, u32, u33, u34, u35, u36, u37, u38, u39, u40, u41, u42, u43, u44, u45, u46, u47, u48, u49, u50, u51, u52, u53, u54, u55, u56, u57, u58, u59, u60, u61, u62, u63, u64, u65, u66, u67, u68, u69, u70, u71, u72, u73, u74, u75, u76, u77, u78, u79, u80, u81, u82, u83, u84, u85, u86, u87, u88, u89, u90, u91, u92, u93, u94, u95, u96, u97, u98, u99, u100, u101, u102, u103, u104, u105, u106, u107, u108, u109, u110, u111, u112, u113, u114, u115, u116, u117, u118, u119, u120, u121, u122, u123, u124, u125, u126, u127, u128, u129, u130, u131, u132, u133, u134, u135, u136, u137, u138, u139, u140, u141, u142, u143, u144, u145, u146, u147, u148, u149, u150, u151, u152, u153, u154, u155, u156, u157, u158, u159, u160, u161, u162, u163, u164, u165, u166, u167, u168, u169, u170, u171, u172, u173, u174, u175, u176, u177, u178, u179, u180, u181, u182, u183, u184, u185, u186, u187, u188, u189, u190, u191, u192, u193, u194, u195, u196, u197, u198, u199, u200, u201, u202, u203, u204, u205, u206, u207, u208, u209, u210, u211, u212, u213, u214, u215, u216, u217, u218, u219, u220, u221, u222, u223, u224, u225, u226, u227, u228, undef, undef, undef, undef, undef, undef, undef, undef, undef, undef, undef, undef, undef], []⟩ wr := by
  conv => arg 2; whnf
  obtain ⟨iT, hiT, hzT0, hzT1, hzT2⟩ := info_of info_rtok
  have hrw := (unhide HD).at0.rws
  have htl : st.toks.length ≤ s.size := (unhide HD).at0.few.toks
  obtain ⟨n5, hn5⟩ : ∃ n, n = st.toks.length := ⟨_, rfl⟩
  have hout := hrw.out
  rw [← hn5] at hout
  obtain ⟨ad5, cap5, he5, hsh5⟩ := out_shape hout hn5
  subst he5
  have hql := (unhide HD).qlt
  have hpl := (unhide HD).ple
  have hq0 : (0 : Int) ≤ (q : Int) := by omega
  have hp0 : (0 : Int) ≤ (p : Int) := by omega
  have hqp : (q : Int) ≤ (p : Int) := by omega
  have hps : (p : Int) ≤ (s.size : Int) := by omega
  have hex := (unhide HD).word
  have hwsz : (BA Wd).size = p - q := by
    rw [← (unhide HD).wlen]
    rfl
  have HWS := hide hwsz
  obtain ⟨n, hn⟩ : ∃ n, n5 = n + 1 := ⟨n5 - 1, by
    have : st.toks ≠ [] := fun e => by rw [e] at HL; exact absurd (unhide HL) (by simp)
    have := List.length_pos_iff.2 this
    omega⟩
  have ht : st.toks[n]? = some t := by
    have h1 := unhide HL
    rw [List.getLast?_eq_getElem?, ← hn5, hn] at h1
    exact h1
  have hwn : IntKind.i64.wrap ((n5 : Int) - 1) = (n : Int) := by rw [IntKind.wrap_i64]; omega
  have hn0 : (0 : Int) ≤ (n : Int) := by omega
  have hnl : (n : Int) < (n5 : Int) := by omega
  have hnn : n5 ≤ n + 1 ∧ n < n5 := by omega
  obtain ⟨g5, hg5, hb5, _, _, _⟩ := hsh5 n t ht
  subst hg5
  have HT := hide ht
  clear ht hn
  have hkd : (t.kind == 2) = true := by rw [unhide HKD]; rfl
  have hx1 : (t.text.toList == [60, 60]) = false := by rw [unhide HTX, ByteArray.toList_eq, BA_list]; decide
  have hx2 : (t.text.toList == [60, 60, 45]) = true := by rw [unhide HTX, ByteArray.toList_eq, BA_list]; decide
  have hp' : (p : Int) < (s.size : Int) := by omega
  have v60 : ((s[p].toNat : Int) == 60) = false := by rw [unhide H60]; rfl
  have v62 : ((s[p].toNat : Int) == 62) = true := by rw [unhide H60]; rfl
  have HIO : Hid ((digsB Wd && ((s.data.toList.drop p).head? == some 60 || (s.data.toList.drop p).head? == some 62)) = false) := hide (by
    rw [unhide HDG]; rfl)
  have HST : Hid (stepR s.size st = ({ st with rest := s.data.toList.drop p, toks := st.toks.modify n (fun t => { t with raw := anyQ Wd }), wait := st.wait ++ [⟨n, endL Wd, true⟩] } : LS).add 1 Wd (q : Int)) := hide (by
    rw [(unhide HD).step, unhide HIO]
    simp only [Bool.false_eq_true, if_false]
    congr 1
    unfold awaitL
    rw [show ({ st with rest := s.data.toList.drop p } : LS).toks.getLast? = some t from unhide HL]
    simp only
    rw [if_pos (.inr (unhide HTX)), show (t.text == BA [60, 60, 45]) = true by rw [unhide HTX]; decide, show st.toks.length - 1 = n by omega]
    rfl)
  obtain ⟨iW, hiW, hzW0, hzW1, hzW2⟩ := info_of info_rwt
  have HN5 := hide hn5
  have HSH := hide hsh5
  clear hrw hout hsh5 hwsz hn5
  go_upto_region 40 with fail
  clear hex
  obtain ⟨tb, htb⟩ : ∃ x, x = wr.heap.size := ⟨_, rfl⟩
  obtain ⟨wA, hwA⟩ : ∃ x, x = wr.alloc (.cells #[.int .i64 1, .string (BA Wd), .int .i64 (q : Int), .string ⟨#[]⟩, .bool false] 65) := ⟨_, rfl⟩
  rw [← htb, ← hwA]
  have hbA : Blk wA tb 65 #[.int .i64 1, .string (BA Wd), .int .i64 (q : Int), .string ⟨#[]⟩, .bool false] := by rw [hwA, htb]; exact Blk.new wr _ _
  have HRA : Hid (Rws w.heap.size wA (.slice (some ⟨g5, 0, none⟩) n5 cap5) u6 st) := hide (by rw [hwA]; exact ⟨World.ownsRow.alloc (unhide HD).at0.rws.out _, World.ownsRow.alloc (unhide HD).at0.rws.wts _⟩)
  have HBA : Hid (Below w.heap.size w wA) := hide (by rw [hwA]; exact (unhide HD).at0.below.alloc (unhide HD).at0.below.size _)
  have _HTG : Hid (w.heap.size ≤ tb) := hide (by rw [htb]; exact (unhide HD).at0.below.size)
  have HTN : Hid (some tb ≠ (Value.slice (some ⟨g5, 0, none⟩) n5 cap5).ownBlock) := hide (fun e => by have := (World.ownsRow.lt (unhide HD).at0.rws.out _ e.symm).2; omega)
  have a0 := hbA.cell 0 rfl
  have a1 := hbA.cell 1 rfl
  have a2 := hbA.cell 2 rfl
  have a3 := hbA.cell 3 rfl
  have a4 := hbA.cell 4 rfl
  have HBK := hide hbA
  have hfzA := hbA.frozen 0
  obtain ⟨adA, capA, heA, hA⟩ := out_shape (w := wA) (by have := (unhide HRA).out; rw [← unhide HN5] at this; exact this) (unhide HN5)
  injection heA with e1 e2 e3
  subst e1
  obtain ⟨gA, hgA, _, _, hfzr, cA⟩ := hA n t (unhide HT)
  injection hgA with hgA
  injection hgA with hgA
  subst hgA
  have d0 : wA.cell? ⟨g5, n * 5, none⟩ = some (.int .i64 t.kind) := cA 0 (.int .i64 t.kind) rfl (by decide)
  have d1 : wA.cell? ⟨g5, n * 5 + 1, none⟩ = some (.string t.text) := cA 1 _ rfl (by decide)
  have d4 : wA.cell? ⟨g5, n * 5 + 4, none⟩ = some (.bool t.raw) := cA 4 (.bool t.raw) rfl (by decide)
  have hfz4 := hfzr (n * 5 + 4)
  clear cA hA hfzr e3
  clear hwA htb hbA
  go_wp2_with fail
  refine (rdigits_any (BA Wd) _ (by have := unhide HWS; omega) (by have := unhide HWS; omega)).mono ?_
  rintro en w3 ⟨rfl, hw3⟩
  rw [show w3 = wA from hw3, show digsB (BA Wd).data.toList = false by rw [BA_list]; exact unhide HDG]
  clear hw3
  go_wp2_with fail
  refine (rquotes_any (BA Wd) _ (by have := unhide HWS; omega)).mono ?_
  rintro en w3 ⟨rfl, hw3⟩
  rw [show w3 = wA from hw3, show anyQ (BA Wd).data.toList = anyQ Wd by rw [BA_list]]
  clear hw3
  go_upto_region 44 with fail
  obtain ⟨wB, hwB⟩ : ∃ x, x = wA.setCell ⟨g5, n * 5 + 4, none⟩ (.bool (anyQ Wd)) := ⟨_, rfl⟩
  rw [← hwB]
  have hne : tb ≠ g5 := fun e => unhide HTN (by rw [e]; rfl)
  have HRB : Hid (Rws w.heap.size wB (.slice (some ⟨g5, 0, none⟩) n5 cap5) u6 { st with rest := s.data.toList.drop p, toks := st.toks.modify n (fun t => { t with raw := anyQ Wd }) }) := hide (by
    have ho := (unhide HRA).out
    rw [← unhide HN5] at ho
    have hst := World.ownsRow.stored ho (n * 5 + 4) (.bool (anyQ Wd))
    have hfl := flatT_set (fun t => { t with raw := anyQ Wd }) 4 (.bool (anyQ Wd)) (by decide) (fun t => rfl) st.toks n (by have := unhide HN5; omega)
    rw [hwB]
    refine ⟨?_, (unhide HRA).wts.kept hst.2 (by have := row_ne (unhide HRA).wts (unhide HRA).out (by decide); simpa [Value.ownBlock] using this)⟩
    have h1 := hst.1
    rw [hfl] at h1
    show World.ownsRow _ _ _ _ _ (st.toks.modify n _).length (flatT (st.toks.modify n _))
    rw [List.length_modify, ← unhide HN5]
    exact h1)
  have HBB : Hid (Below w.heap.size w wB) := hide (by rw [hwB]; exact (unhide HBA).setCell hb5 _)
  have HKB : Hid (Blk wB tb 65 #[.int .i64 1, .string (BA Wd), .int .i64 (q : Int), .string ⟨#[]⟩, .bool false]) := hide (by rw [hwB]; exact (unhide HBK).other hne _)
  clear hwB a0 a1 a2 a3 a4 d0 d1 d4 hfz4 hfzA
  have b1 := (unhide HKB).cell 1 rfl
  go_wp2_with fail
  refine (bare_any (BA Wd) _ (by have := unhide HWS; omega)).mono ?_
  rintro en w6 ⟨rfl, b6⟩
  rw [show endL (BA Wd).data.toList = endL Wd by rw [BA_list]]
  have HR6 := hide ((unhide HRB).keep b6)
  have HB6 := hide ((unhide HBB).trans (b6.mono (unhide HBB).size))
  have HK6 := hide ((unhide HKB).below b6 (unhide HKB).lt)
  have hwl : st.wait.length ≤ s.size := by have := (unhide HD).at0.few.wait; omega
  clear b6 b1
  obtain ⟨E, hE⟩ : ∃ E, E = endL Wd := ⟨_, rfl⟩
  rw [← hE]
  have HE := hide hE
  clear hE
  go_wp2_with (first
    | (at_builtin; refine wpList_append_own _ rfl (.tmp 217) (.tmp 223) 60 rfl w.heap.size 67 iW _ 2 24 und_rwt hiW hzW0 hzW1 hzW2 rfl (by decide) _ _ _ rfl (World.ownsRow.alloc (unhide HR6).wts _) ⟨w6.heap.size, 0, none⟩ 1 1 [.int .i64 (n : Int), .string (BA E)] rfl rfl two_cells two_val ?c3 ?c4 ?c5 ?_)
    | go_in)
  case c3 => unfold maxLen; omega
  case c4 => omega
  case c5 => have := (unhide HB6).size; simp; omega
  intro u7 w7 hownW hgrowW _
  have HRW : Hid (Rws w.heap.size w7 (.slice (some ⟨g5, 0, none⟩) n5 cap5) u7 { st with rest := s.data.toList.drop p, toks := st.toks.modify n (fun t => { t with raw := anyQ Wd }), wait := st.wait ++ [⟨n, endL Wd, true⟩] }) := hide ⟨(World.ownsRow.alloc (unhide HR6).out _).kept hgrowW (row_ne (unhide HR6).out (unhide HR6).wts (by decide)), by
    show World.ownsRow _ _ _ _ _ (st.wait ++ [_]).length (flatW (st.wait ++ [_]))
    rw [List.length_append, flatW_snoc, ← unhide HE]
    exact hownW⟩
  have HBC : Hid (Below w.heap.size w w7) := hide (((unhide HB6).alloc (unhide HB6).size _).grown hgrowW (by have := (unhide HB6).size; simp; omega) (fun j hj => (unhide HR6).lt.2 j hj))
  have HK7 := ((unhide HK6).alloc _).kept hgrowW (type_ne (unhide HR6).wts (unhide HK6) (by decide))
  have k0 := HK7.cell 0 rfl
  have k1 := HK7.cell 1 rfl
  have k2 := HK7.cell 2 rfl
  have k3 := HK7.cell 3 rfl
  have k4 := HK7.cell 4 rfl
  clear HK7 hownW hgrowW
  go_wp2_with (first
    | (at_builtin; refine wpList_append_own _ rfl (.tmp 225) (.tmp 227) 30 rfl w.heap.size 65 iT _ 5 56 und_rtok hiT hzT0 hzT1 hzT2 rfl (by decide) _ _ _ rfl (World.ownsRow.alloc (unhide HRW).out _) ⟨w7.heap.size, 0, none⟩ 1 1 [.int .i64 1, .string (BA Wd), .int .i64 (q : Int), .string ⟨#[]⟩, .bool false] rfl rfl five_cells five_val ?c3 ?c4 ?c5 ?_)
    | go_in)
  case c3 => unfold maxLen; omega
  case c4 => omega
  case c5 => have := (unhide HBC).size; simp; omega
  intro v' w8 hownN hgrowN _
  have HRN := hide (Rws.push (kind := 1) (pos := (q : Int)) (unhide HRW) (by rw [show ({ st with rest := s.data.toList.drop p, toks := st.toks.modify n (fun t => { t with raw := anyQ Wd }), wait := st.wait ++ [⟨n, endL Wd, true⟩] } : LS).toks.length = st.toks.length from List.length_modify _ _ _]; exact hownN) hgrowN)
  have HBn : Hid (Below w.heap.size w w8) := hide (((unhide HBC).alloc (unhide HBC).size _).grown hgrowN (by have := (unhide HBC).size; simp; omega) (fun j hj => (unhide HRW).lt.1 j hj))
  clear hownN hgrowN
  have HS := hide ((unhide HD).next (unhide HST) (unhide HD).at0.flt (unhide HD).at0.blm rfl (unhide HRN) (unhide HBn))
  clear HRN
  go_wp2
  exact ⟨WI_intro ⟨p, _, G, rfl, HS⟩, show s.size - p < s.size - q by omega⟩

end Go.Proofs.YtlmpdfeidjnmnaaDoor

/- The document's 'Lex': a Word behind << or <<-. -/
namespace Go.Proofs.YtlmpdfeidjnmnaaDoor
open Go.RowKit

set_option maxRecDepth 1000000 in
set_option maxHeartbeats 40000000 in
theorem tl_no_h2 {s : ByteArray} {w wr : World} {T st : LS} {q p G : Nat} {Wd : List UInt8} {Q1 : Exit → Act → World → Prop} {u2 u3 u4 u5 u6 u8 u9 u10 u11 u12 u13 u14 u15 u17 u18 u19 u23 u24 u25 u26 u27 u28 u29 u30 u31 u32 u33 u34 u35 u36 u37 u38 u39 u40 u41 u42 u43 u44 u45 u46 u47 u48 u49 u50 u51 u52 u53 u54 u55 u56 u57 u58 u59 u60 u61 u62 u63 u64 u65 u66 u67 u68 u69 u70 u71 u72 u73 u74 u75 u76 u77 u78 u79 u80 u81 u82 u83 u84 u85 u86 u87 u88 u89 u90 u91 u92 u93 u94 u95 u96 u97 u98 u99 u100 u101 u102 u103 u104 u105 u106 u107 u108 u109 u110 u111 u112 u113 u114 u115 u116 u117 u118 u119 u120 u121 u122 u123 u124 u125 u126 u127 u128 u129 u130 u131 u132 u133 u134 u135 u136 u137 u138 u139 u140 u141 u142 u143 u144 u145 u146 u147 u148 u149 u150 u151 u152 u153 u154 u155 u156 u157 u158 u159 u160 u161 u162 u163 u164 u165 u166 u167 u168 u169 u170 u171 u172 u173 u174 u175 u176 u177 u178 u179 u180 u181 u182 u183 u184 u185 u186 u187 u188 u189 u190 u191 u192 u193 u194 u195 u196 u197 u198 u199 u200 u201 u202 u203 u204 u205 u206 u207 u208 u209 u210 u211 u212 u213 u214 u215 u216 u217 u218 u219 u220 u221 u222 u223 u224 u225 u226 u227 u228 : Value} (hs : s.size ≤ 100000) (HD : Hid (WEnd w s T st u5 u6 q p Wd G wr)) (hp : p < s.size) (HNO : Hid (s[p] ≠ 60 ∧ s[p] ≠ 62)) {t : Tok} (HL : Hid (st.toks.getLast? = some t)) (HKD : Hid (t.kind = 2)) (HTX : Hid (t.text = BA [60, 60])) :
    Code.wp Tryd.prog wdTail (Exit.inBlock 1 (Exit.then (fun a' w'' => WI w s T a' w'' ∧ Wmu s a' < s.size - q) Q1)) ⟨#[.string s, undef, u2, u3, u4, u5, u6, .int .i64 (p : Int), u8, u9, u10, u11, u12, u13, u14, u15, .int .i64 (q : Int), u17, u18, u19, .string s, .int .i64 (s.size : Int), .bool false, u23, u24, u25, u26, u27, u28, u29, u30, u31, u32, u33, u34, u35, u36, u37, u38, u39, u40, u41, u42, u43, u44, u45, u46, u47, u48, u49, u50, u51, u52, u53, u54, u55, u56, u57, u58, u59, u60, u61, u62, u63, u64, u65, u66, u67, u68, u69, u70, u71, u72, u73, u74, u75, u76, u77, u78, u79, u80, u81, u82, u83, u84, u85, u86, u87, u88, u89, u90, u91, u92, u93, u94, u95, u96, u97, u98, u99, u100, u101, u102, u103, u104, u105, u106, u107, u108, u109, u110, u111, u112, u113, u114, u115, u116, u117, u118, u119, u120, u121, u122, u123, u124, u125, u126, u127, u128, u129, u130, u131, u132, u133, u134, u135, u136, u137, u138, u139, u140, u141, u142, u143, u144, u145, u146, u147, u148, u149, u150, u151, u152, u153, u154, u155, u156, u157, u158, u159, u160, u161, u162, u163, u164, u165, u166, u167, u168, u169, u170, u171, u172, u173, u174, u175, u176, u177, u178, u179, u180, u181, u182, u183, u184, u185, u186, u187, u188, u189, u190, u191, u192, u193, u194, u195, u196, u197, u198, u199, u200, u201, u202, u203, u204, u205, u206, u207, u208, u209, u210, u211, u212, u213, u214, u215, u216, u217, u218, u219, u220, u221, u222, u223, u224, u225, u226, u227, u228, undef, undef, undef, undef, undef, undef, undef, undef, undef, undef, undef, undef, undef], []⟩ wr := by
  conv => arg 2; whnf
  obtain ⟨iT, hiT, hzT0, hzT1, hzT2⟩ := info_of info_rtok
  have hrw := (unhide HD).at0.rws
  have htl : st.toks.length ≤ s.size := (unhide HD).at0.few.toks
  obtain ⟨n5, hn5⟩ : ∃ n, n = st.toks.length := ⟨_, rfl⟩
  have hout := hrw.out
  rw [← hn5] at hout
  obtain ⟨ad5, cap5, he5, hsh5⟩ := out_shape hout hn5
  subst he5
  have hql := (unhide HD).qlt
  have hpl := (unhide HD).ple
  have hq0 : (0 : Int) ≤ (q : Int) := by omega
  have hp0 : (0 : Int) ≤ (p : Int) := by omega
  have hqp : (q : Int) ≤ (p : Int) := by omega
  have hps : (p : Int) ≤ (s.size : Int) := by omega
  have hex := (unhide HD).word
  have hwsz : (BA Wd).size = p - q := by
    rw [← (unhide HD).wlen]
    rfl
  have HWS := hide hwsz
  obtain ⟨n, hn⟩ : ∃ n, n5 = n + 1 := ⟨n5 - 1, by
    have : st.toks ≠ [] := fun e => by rw [e] at HL; exact absurd (unhide HL) (by simp)
    have := List.length_pos_iff.2 this
    omega⟩
  have ht : st.toks[n]? = some t := by
    have h1 := unhide HL
    rw [List.getLast?_eq_getElem?, ← hn5, hn] at h1
    exact h1
  have hwn : IntKind.i64.wrap ((n5 : Int) - 1) = (n : Int) := by rw [IntKind.wrap_i64]; omega
  have hn0 : (0 : Int) ≤ (n : Int) := by omega
  have hnl : (n : Int) < (n5 : Int) := by omega
  have hnn : n5 ≤ n + 1 ∧ n < n5 := by omega
  obtain ⟨g5, hg5, hb5, _, _, _⟩ := hsh5 n t ht
  subst hg5
  have HT := hide ht
  clear ht hn
  have hkd : (t.kind == 2) = true := by rw [unhide HKD]; rfl
  have hx1 : (t.text.toList == [60, 60]) = true := by rw [unhide HTX, ByteArray.toList_eq, BA_list]; rfl
  have hp' : (p : Int) < (s.size : Int) := by omega
  have v60 : ((s[p].toNat : Int) == 60) = false := beq_eq_false_iff_ne.2 (fun e => (unhide HNO).1 (UInt8.toNat_inj.1 (show s[p].toNat = 60 by omega)))
  have v62 : ((s[p].toNat : Int) == 62) = false := beq_eq_false_iff_ne.2 (fun e => (unhide HNO).2 (UInt8.toNat_inj.1 (show s[p].toNat = 62 by omega)))
  have HIO : Hid ((digsB Wd && ((s.data.toList.drop p).head? == some 60 || (s.data.toList.drop p).head? == some 62)) = false) := hide (by
    rw [head_at hp]
    have h1 := (unhide HNO).1
    have h2 := (unhide HNO).2
    simp [h1, h2])
  have HST : Hid (stepR s.size st = ({ st with rest := s.data.toList.drop p, toks := st.toks.modify n (fun t => { t with raw := anyQ Wd }), wait := st.wait ++ [⟨n, endL Wd, false⟩] } : LS).add 1 Wd (q : Int)) := hide (by
    rw [(unhide HD).step, unhide HIO]
    simp only [Bool.false_eq_true, if_false]
    congr 1
    unfold awaitL
    rw [show ({ st with rest := s.data.toList.drop p } : LS).toks.getLast? = some t from unhide HL]
    simp only
    rw [if_pos (.inl (unhide HTX)), show (t.text == BA [60, 60, 45]) = false by rw [unhide HTX]; decide, show st.toks.length - 1 = n by omega]
    rfl)
  obtain ⟨iW, hiW, hzW0, hzW1, hzW2⟩ := info_of info_rwt
  have HN5 := hide hn5
  have HSH := hide hsh5
  clear hrw hout hsh5 hwsz hn5
  go_upto_region 40 with fail
  clear hex
  obtain ⟨tb, htb⟩ : ∃ x, x = wr.heap.size := ⟨_, rfl⟩
  obtain ⟨wA, hwA⟩ : ∃ x, x = wr.alloc (.cells #[.int .i64 1, .string (BA Wd), .int .i64 (q : Int), .string ⟨#[]⟩, .bool false] 65) := ⟨_, rfl⟩
  rw [← htb, ← hwA]
  have hbA : Blk wA tb 65 #[.int .i64 1, .string (BA Wd), .int .i64 (q : Int), .string ⟨#[]⟩, .bool false] := by rw [hwA, htb]; exact Blk.new wr _ _
  have HRA : Hid (Rws w.heap.size wA (.slice (some ⟨g5, 0, none⟩) n5 cap5) u6 st) := hide (by rw [hwA]; exact ⟨World.ownsRow.alloc (unhide HD).at0.rws.out _, World.ownsRow.alloc (unhide HD).at0.rws.wts _⟩)
  have HBA : Hid (Below w.heap.size w wA) := hide (by rw [hwA]; exact (unhide HD).at0.below.alloc (unhide HD).at0.below.size _)
  have _HTG : Hid (w.heap.size ≤ tb) := hide (by rw [htb]; exact (unhide HD).at0.below.size)
  have HTN : Hid (some tb ≠ (Value.slice (some ⟨g5, 0, none⟩) n5 cap5).ownBlock) := hide (fun e => by have := (World.ownsRow.lt (unhide HD).at0.rws.out _ e.symm).2; omega)
  have a0 := hbA.cell 0 rfl
  have a1 := hbA.cell 1 rfl
  have a2 := hbA.cell 2 rfl
  have a3 := hbA.cell 3 rfl
  have a4 := hbA.cell 4 rfl
  have HBK := hide hbA
  have hfzA := hbA.frozen 0
  obtain ⟨adA, capA, heA, hA⟩ := out_shape (w := wA) (by have := (unhide HRA).out; rw [← unhide HN5] at this; exact this) (unhide HN5)
  injection heA with e1 e2 e3
  subst e1
  obtain ⟨gA, hgA, _, _, hfzr, cA⟩ := hA n t (unhide HT)
  injection hgA with hgA
  injection hgA with hgA
  subst hgA
  have d0 : wA.cell? ⟨g5, n * 5, none⟩ = some (.int .i64 t.kind) := cA 0 (.int .i64 t.kind) rfl (by decide)
  have d1 : wA.cell? ⟨g5, n * 5 + 1, none⟩ = some (.string t.text) := cA 1 _ rfl (by decide)
  have d4 : wA.cell? ⟨g5, n * 5 + 4, none⟩ = some (.bool t.raw) := cA 4 (.bool t.raw) rfl (by decide)
  have hfz4 := hfzr (n * 5 + 4)
  clear cA hA hfzr e3
  clear hwA htb hbA
  go_wp2_with fail
  refine (rquotes_any (BA Wd) _ (by have := unhide HWS; omega)).mono ?_
  rintro en w3 ⟨rfl, hw3⟩
  rw [show w3 = wA from hw3, show anyQ (BA Wd).data.toList = anyQ Wd by rw [BA_list]]
  clear hw3
  go_upto_region 44 with fail
  obtain ⟨wB, hwB⟩ : ∃ x, x = wA.setCell ⟨g5, n * 5 + 4, none⟩ (.bool (anyQ Wd)) := ⟨_, rfl⟩
  rw [← hwB]
  have hne : tb ≠ g5 := fun e => unhide HTN (by rw [e]; rfl)
  have HRB : Hid (Rws w.heap.size wB (.slice (some ⟨g5, 0, none⟩) n5 cap5) u6 { st with rest := s.data.toList.drop p, toks := st.toks.modify n (fun t => { t with raw := anyQ Wd }) }) := hide (by
    have ho := (unhide HRA).out
    rw [← unhide HN5] at ho
    have hst := World.ownsRow.stored ho (n * 5 + 4) (.bool (anyQ Wd))
    have hfl := flatT_set (fun t => { t with raw := anyQ Wd }) 4 (.bool (anyQ Wd)) (by decide) (fun t => rfl) st.toks n (by have := unhide HN5; omega)
    rw [hwB]
    refine ⟨?_, (unhide HRA).wts.kept hst.2 (by have := row_ne (unhide HRA).wts (unhide HRA).out (by decide); simpa [Value.ownBlock] using this)⟩
    have h1 := hst.1
    rw [hfl] at h1
    show World.ownsRow _ _ _ _ _ (st.toks.modify n _).length (flatT (st.toks.modify n _))
    rw [List.length_modify, ← unhide HN5]
    exact h1)
  have HBB : Hid (Below w.heap.size w wB) := hide (by rw [hwB]; exact (unhide HBA).setCell hb5 _)
  have HKB : Hid (Blk wB tb 65 #[.int .i64 1, .string (BA Wd), .int .i64 (q : Int), .string ⟨#[]⟩, .bool false]) := hide (by rw [hwB]; exact (unhide HBK).other hne _)
  clear hwB a0 a1 a2 a3 a4 d0 d1 d4 hfz4 hfzA
  have b1 := (unhide HKB).cell 1 rfl
  go_wp2_with fail
  refine (bare_any (BA Wd) _ (by have := unhide HWS; omega)).mono ?_
  rintro en w6 ⟨rfl, b6⟩
  rw [show endL (BA Wd).data.toList = endL Wd by rw [BA_list]]
  have HR6 := hide ((unhide HRB).keep b6)
  have HB6 := hide ((unhide HBB).trans (b6.mono (unhide HBB).size))
  have HK6 := hide ((unhide HKB).below b6 (unhide HKB).lt)
  have hwl : st.wait.length ≤ s.size := by have := (unhide HD).at0.few.wait; omega
  clear b6 b1
  obtain ⟨E, hE⟩ : ∃ E, E = endL Wd := ⟨_, rfl⟩
  rw [← hE]
  have HE := hide hE
  clear hE
  go_wp2_with (first
    | (at_builtin; refine wpList_append_own _ rfl (.tmp 217) (.tmp 223) 60 rfl w.heap.size 67 iW _ 2 24 und_rwt hiW hzW0 hzW1 hzW2 rfl (by decide) _ _ _ rfl (World.ownsRow.alloc (unhide HR6).wts _) ⟨w6.heap.size, 0, none⟩ 1 1 [.int .i64 (n : Int), .string (BA E)] rfl rfl two_cells two_val ?c3 ?c4 ?c5 ?_)
    | go_in)
  case c3 => unfold maxLen; omega
  case c4 => omega
  case c5 => have := (unhide HB6).size; simp; omega
  intro u7 w7 hownW hgrowW _
  have HRW : Hid (Rws w.heap.size w7 (.slice (some ⟨g5, 0, none⟩) n5 cap5) u7 { st with rest := s.data.toList.drop p, toks := st.toks.modify n (fun t => { t with raw := anyQ Wd }), wait := st.wait ++ [⟨n, endL Wd, false⟩] }) := hide ⟨(World.ownsRow.alloc (unhide HR6).out _).kept hgrowW (row_ne (unhide HR6).out (unhide HR6).wts (by decide)), by
    show World.ownsRow _ _ _ _ _ (st.wait ++ [_]).length (flatW (st.wait ++ [_]))
    rw [List.length_append, flatW_snoc, ← unhide HE]
    exact hownW⟩
  have HBC : Hid (Below w.heap.size w w7) := hide (((unhide HB6).alloc (unhide HB6).size _).grown hgrowW (by have := (unhide HB6).size; simp; omega) (fun j hj => (unhide HR6).lt.2 j hj))
  have HK7 := ((unhide HK6).alloc _).kept hgrowW (type_ne (unhide HR6).wts (unhide HK6) (by decide))
  have k0 := HK7.cell 0 rfl
  have k1 := HK7.cell 1 rfl
  have k2 := HK7.cell 2 rfl
  have k3 := HK7.cell 3 rfl
  have k4 := HK7.cell 4 rfl
  clear HK7 hownW hgrowW
  go_wp2_with (first
    | (at_builtin; refine wpList_append_own _ rfl (.tmp 225) (.tmp 227) 30 rfl w.heap.size 65 iT _ 5 56 und_rtok hiT hzT0 hzT1 hzT2 rfl (by decide) _ _ _ rfl (World.ownsRow.alloc (unhide HRW).out _) ⟨w7.heap.size, 0, none⟩ 1 1 [.int .i64 1, .string (BA Wd), .int .i64 (q : Int), .string ⟨#[]⟩, .bool false] rfl rfl five_cells five_val ?c3 ?c4 ?c5 ?_)
    | go_in)
  case c3 => unfold maxLen; omega
  case c4 => omega
  case c5 => have := (unhide HBC).size; simp; omega
  intro v' w8 hownN hgrowN _
  have HRN := hide (Rws.push (kind := 1) (pos := (q : Int)) (unhide HRW) (by rw [show ({ st with rest := s.data.toList.drop p, toks := st.toks.modify n (fun t => { t with raw := anyQ Wd }), wait := st.wait ++ [⟨n, endL Wd, false⟩] } : LS).toks.length = st.toks.length from List.length_modify _ _ _]; exact hownN) hgrowN)
  have HBn : Hid (Below w.heap.size w w8) := hide (((unhide HBC).alloc (unhide HBC).size _).grown hgrowN (by have := (unhide HBC).size; simp; omega) (fun j hj => (unhide HRW).lt.1 j hj))
  clear hownN hgrowN
  have HS := hide ((unhide HD).next (unhide HST) (unhide HD).at0.flt (unhide HD).at0.blm rfl (unhide HRN) (unhide HBn))
  clear HRN
  go_wp2
  exact ⟨WI_intro ⟨p, _, G, rfl, HS⟩, show s.size - p < s.size - q by omega⟩

set_option maxRecDepth 1000000 in
set_option maxHeartbeats 40000000 in
theorem tl_no_h3 {s : ByteArray} {w wr : World} {T st : LS} {q p G : Nat} {Wd : List UInt8} {Q1 : Exit → Act → World → Prop} {u2 u3 u4 u5 u6 u8 u9 u10 u11 u12 u13 u14 u15 u17 u18 u19 u23 u24 u25 u26 u27 u28 u29 u30 u31 u32 u33 u34 u35 u36 u37 u38 u39 u40 u41 u42 u43 u44 u45 u46 u47 u48 u49 u50 u51 u52 u53 u54 u55 u56 u57 u58 u59 u60 u61 u62 u63 u64 u65 u66 u67 u68 u69 u70 u71 u72 u73 u74 u75 u76 u77 u78 u79 u80 u81 u82 u83 u84 u85 u86 u87 u88 u89 u90 u91 u92 u93 u94 u95 u96 u97 u98 u99 u100 u101 u102 u103 u104 u105 u106 u107 u108 u109 u110 u111 u112 u113 u114 u115 u116 u117 u118 u119 u120 u121 u122 u123 u124 u125 u126 u127 u128 u129 u130 u131 u132 u133 u134 u135 u136 u137 u138 u139 u140 u141 u142 u143 u144 u145 u146 u147 u148 u149 u150 u151 u152 u153 u154 u155 u156 u157 u158 u159 u160 u161 u162 u163 u164 u165 u166 u167 u168 u169 u170 u171 u172 u173 u174 u175 u176 u177 u178 u179 u180 u181 u182 u183 u184 u185 u186 u187 u188 u189 u190 u191 u192 u193 u194 u195 u196 u197 u198 u199 u200 u201 u202 u203 u204 u205 u206 u207 u208 u209 u210 u211 u212 u213 u214 u215 u216 u217 u218 u219 u220 u221 u222 u223 u224 u225 u226 u227 u228 : Value} (hs : s.size ≤ 100000) (HD : Hid (WEnd w s T st u5 u6 q p Wd G wr)) (hp : p < s.size) (HNO : Hid (s[p] ≠ 60 ∧ s[p] ≠ 62)) {t : Tok} (HL : Hid (st.toks.getLast? = some t)) (HKD : Hid (t.kind = 2)) (HTX : Hid (t.text = BA [60, 60, 45])) :
    Code.wp Tryd.prog wdTail (Exit.inBlock 1 (Exit.then (fun a' w'' => WI w s T a' w'' ∧ Wmu s a' < s.size - q) Q1)) ⟨#[.string s, undef, u2, u3, u4, u5, u6, .int .i64 (p : Int), u8, u9, u10, u11, u12, u13, u14, u15, .int .i64 (q : Int), u17, u18, u19, .string s, .int .i64 (s.size : Int), .bool false, u23, u24, u25, u26, u27, u28, u29, u30, u31, u32, u33, u34, u35, u36, u37, u38, u39, u40, u41, u42, u43, u44, u45, u46, u47, u48, u49, u50, u51, u52, u53, u54, u55, u56, u57, u58, u59, u60, u61, u62, u63, u64, u65, u66, u67, u68, u69, u70, u71, u72, u73, u74, u75, u76, u77, u78, u79, u80, u81, u82, u83, u84, u85, u86, u87, u88, u89, u90, u91, u92, u93, u94, u95, u96, u97, u98, u99, u100, u101, u102, u103, u104, u105, u106, u107, u108, u109, u110, u111, u112, u113, u114, u115, u116, u117, u118, u119, u120, u121, u122, u123, u124, u125, u126, u127, u128, u129, u130, u131, u132, u133, u134, u135, u136, u137, u138, u139, u140, u141, u142, u143, u144, u145, u146, u147, u148, u149, u150, u151, u152, u153, u154, u155, u156, u157, u158, u159, u160, u161, u162, u163, u164, u165, u166, u167, u168, u169, u170, u171, u172, u173, u174, u175, u176, u177, u178, u179, u180, u181, u182, u183, u184, u185, u186, u187, u188, u189, u190, u191, u192, u193, u194, u195, u196, u197, u198, u199, u200, u201, u202, u203, u204, u205, u206, u207, u208, u209, u210, u211, u212, u213, u214, u215, u216, u217, u218, u219, u220, u221, u222, u223, u224, u225, u226, u227, u228, undef, undef, undef, undef, undef, undef, undef, undef, undef, undef, undef, undef, undef], []⟩ wr := by
  conv => arg 2; whnf
  obtain ⟨iT, hiT, hzT0, hzT1, hzT2⟩ := info_of info_rtok
  have hrw := (unhide HD).at0.rws
  have htl : st.toks.length ≤ s.size := (unhide HD).at0.few.toks
  obtain ⟨n5, hn5⟩ : ∃ n, n = st.toks.length := ⟨_, rfl⟩
  have hout := hrw.out
  rw [← hn5] at hout
  obtain ⟨ad5, cap5, he5, hsh5⟩ := out_shape hout hn5
  subst he5
  have hql := (unhide HD).qlt
  have hpl := (unhide HD).ple
  have hq0 : (0 : Int) ≤ (q : Int) := by omega
  have hp0 : (0 : Int) ≤ (p : Int) := by omega
  have hqp : (q : Int) ≤ (p : Int) := by omega
  have hps : (p : Int) ≤ (s.size : Int) := by omega
  have hex := (unhide HD).word
  have hwsz : (BA Wd).size = p - q := by
    rw [← (unhide HD).wlen]
    rfl
  have HWS := hide hwsz
  obtain ⟨n, hn⟩ : ∃ n, n5 = n + 1 := ⟨n5 - 1, by
    have : st.toks ≠ [] := fun e => by rw [e] at HL; exact absurd (unhide HL) (by simp)
    have := List.length_pos_iff.2 this
    omega⟩
  have ht : st.toks[n]? = some t := by
    have h1 := unhide HL
    rw [List.getLast?_eq_getElem?, ← hn5, hn] at h1
    exact h1
  have hwn : IntKind.i64.wrap ((n5 : Int) - 1) = (n : Int) := by rw [IntKind.wrap_i64]; omega
  have hn0 : (0 : Int) ≤ (n : Int) := by omega
  have hnl : (n : Int) < (n5 : Int) := by omega
  have hnn : n5 ≤ n + 1 ∧ n < n5 := by omega
  obtain ⟨g5, hg5, hb5, _, _, _⟩ := hsh5 n t ht
  subst hg5
  have HT := hide ht
  clear ht hn
  have hkd : (t.kind == 2) = true := by rw [unhide HKD]; rfl
  have hx1 : (t.text.toList == [60, 60]) = false := by rw [unhide HTX, ByteArray.toList_eq, BA_list]; decide
  have hx2 : (t.text.toList == [60, 60, 45]) = true := by rw [unhide HTX, ByteArray.toList_eq, BA_list]; decide
  have hp' : (p : Int) < (s.size : Int) := by omega
  have v60 : ((s[p].toNat : Int) == 60) = false := beq_eq_false_iff_ne.2 (fun e => (unhide HNO).1 (UInt8.toNat_inj.1 (show s[p].toNat = 60 by omega)))
  have v62 : ((s[p].toNat : Int) == 62) = false := beq_eq_false_iff_ne.2 (fun e => (unhide HNO).2 (UInt8.toNat_inj.1 (show s[p].toNat = 62 by omega)))
  have HIO : Hid ((digsB Wd && ((s.data.toList.drop p).head? == some 60 || (s.data.toList.drop p).head? == some 62)) = false) := hide (by
    rw [head_at hp]
    have h1 := (unhide HNO).1
    have h2 := (unhide HNO).2
    simp [h1, h2])
  have HST : Hid (stepR s.size st = ({ st with rest := s.data.toList.drop p, toks := st.toks.modify n (fun t => { t with raw := anyQ Wd }), wait := st.wait ++ [⟨n, endL Wd, true⟩] } : LS).add 1 Wd (q : Int)) := hide (by
    rw [(unhide HD).step, unhide HIO]
    simp only [Bool.false_eq_true, if_false]
    congr 1
    unfold awaitL
    rw [show ({ st with rest := s.data.toList.drop p } : LS).toks.getLast? = some t from unhide HL]
    simp only
    rw [if_pos (.inr (unhide HTX)), show (t.text == BA [60, 60, 45]) = true by rw [unhide HTX]; decide, show st.toks.length - 1 = n by omega]
    rfl)
  obtain ⟨iW, hiW, hzW0, hzW1, hzW2⟩ := info_of info_rwt
  have HN5 := hide hn5
  have HSH := hide hsh5
  clear hrw hout hsh5 hwsz hn5
  go_upto_region 40 with fail
  clear hex
  obtain ⟨tb, htb⟩ : ∃ x, x = wr.heap.size := ⟨_, rfl⟩
  obtain ⟨wA, hwA⟩ : ∃ x, x = wr.alloc (.cells #[.int .i64 1, .string (BA Wd), .int .i64 (q : Int), .string ⟨#[]⟩, .bool false] 65) := ⟨_, rfl⟩
  rw [← htb, ← hwA]
  have hbA : Blk wA tb 65 #[.int .i64 1, .string (BA Wd), .int .i64 (q : Int), .string ⟨#[]⟩, .bool false] := by rw [hwA, htb]; exact Blk.new wr _ _
  have HRA : Hid (Rws w.heap.size wA (.slice (some ⟨g5, 0, none⟩) n5 cap5) u6 st) := hide (by rw [hwA]; exact ⟨World.ownsRow.alloc (unhide HD).at0.rws.out _, World.ownsRow.alloc (unhide HD).at0.rws.wts _⟩)
  have HBA : Hid (Below w.heap.size w wA) := hide (by rw [hwA]; exact (unhide HD).at0.below.alloc (unhide HD).at0.below.size _)
  have _HTG : Hid (w.heap.size ≤ tb) := hide (by rw [htb]; exact (unhide HD).at0.below.size)
  have HTN : Hid (some tb ≠ (Value.slice (some ⟨g5, 0, none⟩) n5 cap5).ownBlock) := hide (fun e => by have := (World.ownsRow.lt (unhide HD).at0.rws.out _ e.symm).2; omega)
  have a0 := hbA.cell 0 rfl
  have a1 := hbA.cell 1 rfl
  have a2 := hbA.cell 2 rfl
  have a3 := hbA.cell 3 rfl
  have a4 := hbA.cell 4 rfl
  have HBK := hide hbA
  have hfzA := hbA.frozen 0
  obtain ⟨adA, capA, heA, hA⟩ := out_shape (w := wA) (by have := (unhide HRA).out; rw [← unhide HN5] at this; exact this) (unhide HN5)
  injection heA with e1 e2 e3
  subst e1
  obtain ⟨gA, hgA, _, _, hfzr, cA⟩ := hA n t (unhide HT)
  injection hgA with hgA
  injection hgA with hgA
  subst hgA
  have d0 : wA.cell? ⟨g5, n * 5, none⟩ = some (.int .i64 t.kind) := cA 0 (.int .i64 t.kind) rfl (by decide)
  have d1 : wA.cell? ⟨g5, n * 5 + 1, none⟩ = some (.string t.text) := cA 1 _ rfl (by decide)
  have d4 : wA.cell? ⟨g5, n * 5 + 4, none⟩ = some (.bool t.raw) := cA 4 (.bool t.raw) rfl (by decide)
  have hfz4 := hfzr (n * 5 + 4)
  clear cA hA hfzr e3
  clear hwA htb hbA
  go_wp2_with fail
  refine (rquotes_any (BA Wd) _ (by have := unhide HWS; omega)).mono ?_
  rintro en w3 ⟨rfl, hw3⟩
  rw [show w3 = wA from hw3, show anyQ (BA Wd).data.toList = anyQ Wd by rw [BA_list]]
  clear hw3
  go_upto_region 44 with fail
  obtain ⟨wB, hwB⟩ : ∃ x, x = wA.setCell ⟨g5, n * 5 + 4, none⟩ (.bool (anyQ Wd)) := ⟨_, rfl⟩
  rw [← hwB]
  have hne : tb ≠ g5 := fun e => unhide HTN (by rw [e]; rfl)
  have HRB : Hid (Rws w.heap.size wB (.slice (some ⟨g5, 0, none⟩) n5 cap5) u6 { st with rest := s.data.toList.drop p, toks := st.toks.modify n (fun t => { t with raw := anyQ Wd }) }) := hide (by
    have ho := (unhide HRA).out
    rw [← unhide HN5] at ho
    have hst := World.ownsRow.stored ho (n * 5 + 4) (.bool (anyQ Wd))
    have hfl := flatT_set (fun t => { t with raw := anyQ Wd }) 4 (.bool (anyQ Wd)) (by decide) (fun t => rfl) st.toks n (by have := unhide HN5; omega)
    rw [hwB]
    refine ⟨?_, (unhide HRA).wts.kept hst.2 (by have := row_ne (unhide HRA).wts (unhide HRA).out (by decide); simpa [Value.ownBlock] using this)⟩
    have h1 := hst.1
    rw [hfl] at h1
    show World.ownsRow _ _ _ _ _ (st.toks.modify n _).length (flatT (st.toks.modify n _))
    rw [List.length_modify, ← unhide HN5]
    exact h1)
  have HBB : Hid (Below w.heap.size w wB) := hide (by rw [hwB]; exact (unhide HBA).setCell hb5 _)
  have HKB : Hid (Blk wB tb 65 #[.int .i64 1, .string (BA Wd), .int .i64 (q : Int), .string ⟨#[]⟩, .bool false]) := hide (by rw [hwB]; exact (unhide HBK).other hne _)
  clear hwB a0 a1 a2 a3 a4 d0 d1 d4 hfz4 hfzA
  have b1 := (unhide HKB).cell 1 rfl
  go_wp2_with fail
  refine (bare_any (BA Wd) _ (by have := unhide HWS; omega)).mono ?_
  rintro en w6 ⟨rfl, b6⟩
  rw [show endL (BA Wd).data.toList = endL Wd by rw [BA_list]]
  have HR6 := hide ((unhide HRB).keep b6)
  have HB6 := hide ((unhide HBB).trans (b6.mono (unhide HBB).size))
  have HK6 := hide ((unhide HKB).below b6 (unhide HKB).lt)
  have hwl : st.wait.length ≤ s.size := by have := (unhide HD).at0.few.wait; omega
  clear b6 b1
  obtain ⟨E, hE⟩ : ∃ E, E = endL Wd := ⟨_, rfl⟩
  rw [← hE]
  have HE := hide hE
  clear hE
  go_wp2_with (first
    | (at_builtin; refine wpList_append_own _ rfl (.tmp 217) (.tmp 223) 60 rfl w.heap.size 67 iW _ 2 24 und_rwt hiW hzW0 hzW1 hzW2 rfl (by decide) _ _ _ rfl (World.ownsRow.alloc (unhide HR6).wts _) ⟨w6.heap.size, 0, none⟩ 1 1 [.int .i64 (n : Int), .string (BA E)] rfl rfl two_cells two_val ?c3 ?c4 ?c5 ?_)
    | go_in)
  case c3 => unfold maxLen; omega
  case c4 => omega
  case c5 => have := (unhide HB6).size; simp; omega
  intro u7 w7 hownW hgrowW _
  have HRW : Hid (Rws w.heap.size w7 (.slice (some ⟨g5, 0, none⟩) n5 cap5) u7 { st with rest := s.data.toList.drop p, toks := st.toks.modify n (fun t => { t with raw := anyQ Wd }), wait := st.wait ++ [⟨n, endL Wd, true⟩] }) := hide ⟨(World.ownsRow.alloc (unhide HR6).out _).kept hgrowW (row_ne (unhide HR6).out (unhide HR6).wts (by decide)), by
    show World.ownsRow _ _ _ _ _ (st.wait ++ [_]).length (flatW (st.wait ++ [_]))
    rw [List.length_append, flatW_snoc, ← unhide HE]
    exact hownW⟩
  have HBC : Hid (Below w.heap.size w w7) := hide (((unhide HB6).alloc (unhide HB6).size _).grown hgrowW (by have := (unhide HB6).size; simp; omega) (fun j hj => (unhide HR6).lt.2 j hj))
  have HK7 := ((unhide HK6).alloc _).kept hgrowW (type_ne (unhide HR6).wts (unhide HK6) (by decide))
  have k0 := HK7.cell 0 rfl
  have k1 := HK7.cell 1 rfl
  have k2 := HK7.cell 2 rfl
  have k3 := HK7.cell 3 rfl
  have k4 := HK7.cell 4 rfl
  clear HK7 hownW hgrowW
  go_wp2_with (first
    | (at_builtin; refine wpList_append_own _ rfl (.tmp 225) (.tmp 227) 30 rfl w.heap.size 65 iT _ 5 56 und_rtok hiT hzT0 hzT1 hzT2 rfl (by decide) _ _ _ rfl (World.ownsRow.alloc (unhide HRW).out _) ⟨w7.heap.size, 0, none⟩ 1 1 [.int .i64 1, .string (BA Wd), .int .i64 (q : Int), .string ⟨#[]⟩, .bool false] rfl rfl five_cells five_val ?c3 ?c4 ?c5 ?_)
    | go_in)
  case c3 => unfold maxLen; omega
  case c4 => omega
  case c5 => have := (unhide HBC).size; simp; omega
  intro v' w8 hownN hgrowN _
  have HRN := hide (Rws.push (kind := 1) (pos := (q : Int)) (unhide HRW) (by rw [show ({ st with rest := s.data.toList.drop p, toks := st.toks.modify n (fun t => { t with raw := anyQ Wd }), wait := st.wait ++ [⟨n, endL Wd, true⟩] } : LS).toks.length = st.toks.length from List.length_modify _ _ _]; exact hownN) hgrowN)
  have HBn : Hid (Below w.heap.size w w8) := hide (((unhide HBC).alloc (unhide HBC).size _).grown hgrowN (by have := (unhide HBC).size; simp; omega) (fun j hj => (unhide HRW).lt.1 j hj))
  clear hownN hgrowN
  have HS := hide ((unhide HD).next (unhide HST) (unhide HD).at0.flt (unhide HD).at0.blm rfl (unhide HRN) (unhide HBn))
  clear HRN
  go_wp2
  exact ⟨WI_intro ⟨p, _, G, rfl, HS⟩, show s.size - p < s.size - q by omega⟩

end Go.Proofs.YtlmpdfeidjnmnaaDoor

/- The document's 'Lex': a Word behind << or <<-. -/
namespace Go.Proofs.YtlmpdfeidjnmnaaDoor
open Go.RowKit

set_option maxRecDepth 1000000 in
set_option maxHeartbeats 40000000 in
theorem tl_end_h2 {s : ByteArray} {w wr : World} {T st : LS} {q p G : Nat} {Wd : List UInt8} {Q1 : Exit → Act → World → Prop} {u2 u3 u4 u5 u6 u8 u9 u10 u11 u12 u13 u14 u15 u17 u18 u19 u23 u24 u25 u26 u27 u28 u29 u30 u31 u32 u33 u34 u35 u36 u37 u38 u39 u40 u41 u42 u43 u44 u45 u46 u47 u48 u49 u50 u51 u52 u53 u54 u55 u56 u57 u58 u59 u60 u61 u62 u63 u64 u65 u66 u67 u68 u69 u70 u71 u72 u73 u74 u75 u76 u77 u78 u79 u80 u81 u82 u83 u84 u85 u86 u87 u88 u89 u90 u91 u92 u93 u94 u95 u96 u97 u98 u99 u100 u101 u102 u103 u104 u105 u106 u107 u108 u109 u110 u111 u112 u113 u114 u115 u116 u117 u118 u119 u120 u121 u122 u123 u124 u125 u126 u127 u128 u129 u130 u131 u132 u133 u134 u135 u136 u137 u138 u139 u140 u141 u142 u143 u144 u145 u146 u147 u148 u149 u150 u151 u152 u153 u154 u155 u156 u157 u158 u159 u160 u161 u162 u163 u164 u165 u166 u167 u168 u169 u170 u171 u172 u173 u174 u175 u176 u177 u178 u179 u180 u181 u182 u183 u184 u185 u186 u187 u188 u189 u190 u191 u192 u193 u194 u195 u196 u197 u198 u199 u200 u201 u202 u203 u204 u205 u206 u207 u208 u209 u210 u211 u212 u213 u214 u215 u216 u217 u218 u219 u220 u221 u222 u223 u224 u225 u226 u227 u228 : Value} (hs : s.size ≤ 100000) (HD : Hid (WEnd w s T st u5 u6 q p Wd G wr)) (hp : ¬ p < s.size) {t : Tok} (HL : Hid (st.toks.getLast? = some t)) (HKD : Hid (t.kind = 2)) (HTX : Hid (t.text = BA [60, 60])) :
    Code.wp Tryd.prog wdTail (Exit.inBlock 1 (Exit.then (fun a' w'' => WI w s T a' w'' ∧ Wmu s a' < s.size - q) Q1)) ⟨#[.string s, undef, u2, u3, u4, u5, u6, .int .i64 (p : Int), u8, u9, u10, u11, u12, u13, u14, u15, .int .i64 (q : Int), u17, u18, u19, .string s, .int .i64 (s.size : Int), .bool false, u23, u24, u25, u26, u27, u28, u29, u30, u31, u32, u33, u34, u35, u36, u37, u38, u39, u40, u41, u42, u43, u44, u45, u46, u47, u48, u49, u50, u51, u52, u53, u54, u55, u56, u57, u58, u59, u60, u61, u62, u63, u64, u65, u66, u67, u68, u69, u70, u71, u72, u73, u74, u75, u76, u77, u78, u79, u80, u81, u82, u83, u84, u85, u86, u87, u88, u89, u90, u91, u92, u93, u94, u95, u96, u97, u98, u99, u100, u101, u102, u103, u104, u105, u106, u107, u108, u109, u110, u111, u112, u113, u114, u115, u116, u117, u118, u119, u120, u121, u122, u123, u124, u125, u126, u127, u128, u129, u130, u131, u132, u133, u134, u135, u136, u137, u138, u139, u140, u141, u142, u143, u144, u145, u146, u147, u148, u149, u150, u151, u152, u153, u154, u155, u156, u157, u158, u159, u160, u161, u162, u163, u164, u165, u166, u167, u168, u169, u170, u171, u172, u173, u174, u175, u176, u177, u178, u179, u180, u181, u182, u183, u184, u185, u186, u187, u188, u189, u190, u191, u192, u193, u194, u195, u196, u197, u198, u199, u200, u201, u202, u203, u204, u205, u206, u207, u208, u209, u210, u211, u212, u213, u214, u215, u216, u217, u218, u219, u220, u221, u222, u223, u224, u225, u226, u227, u228, undef, undef, undef, undef, undef, undef, undef, undef, undef, undef, undef, undef, undef], []⟩ wr := by
  conv => arg 2; whnf
  obtain ⟨iT, hiT, hzT0, hzT1, hzT2⟩ := info_of info_rtok
  have hrw := (unhide HD).at0.rws
  have htl : st.toks.length ≤ s.size := (unhide HD).at0.few.toks
  obtain ⟨n5, hn5⟩ : ∃ n, n = st.toks.length := ⟨_, rfl⟩
  have hout := hrw.out
  rw [← hn5] at hout
  obtain ⟨ad5, cap5, he5, hsh5⟩ := out_shape hout hn5
  subst he5
  have hql := (unhide HD).qlt
  have hpl := (unhide HD).ple
  have hq0 : (0 : Int) ≤ (q : Int) := by omega
  have hp0 : (0 : Int) ≤ (p : Int) := by omega
  have hqp : (q : Int) ≤ (p : Int) := by omega
  have hps : (p : Int) ≤ (s.size : Int) := by omega
  have hex := (unhide HD).word
  have hwsz : (BA Wd).size = p - q := by
    rw [← (unhide HD).wlen]
    rfl
  have HWS := hide hwsz
  obtain ⟨n, hn⟩ : ∃ n, n5 = n + 1 := ⟨n5 - 1, by
    have : st.toks ≠ [] := fun e => by rw [e] at HL; exact absurd (unhide HL) (by simp)
    have := List.length_pos_iff.2 this
    omega⟩
  have ht : st.toks[n]? = some t := by
    have h1 := unhide HL
    rw [List.getLast?_eq_getElem?, ← hn5, hn] at h1
    exact h1
  have hwn : IntKind.i64.wrap ((n5 : Int) - 1) = (n : Int) := by rw [IntKind.wrap_i64]; omega
  have hn0 : (0 : Int) ≤ (n : Int) := by omega
  have hnl : (n : Int) < (n5 : Int) := by omega
  have hnn : n5 ≤ n + 1 ∧ n < n5 := by omega
  obtain ⟨g5, hg5, hb5, _, _, _⟩ := hsh5 n t ht
  subst hg5
  have HT := hide ht
  clear ht hn
  have hkd : (t.kind == 2) = true := by rw [unhide HKD]; rfl
  have hx1 : (t.text.toList == [60, 60]) = true := by rw [unhide HTX, ByteArray.toList_eq, BA_list]; rfl
  have hp' : ¬ (p : Int) < (s.size : Int) := by omega
  have HIO : Hid ((digsB Wd && ((s.data.toList.drop p).head? == some 60 || (s.data.toList.drop p).head? == some 62)) = false) := hide (by
    rw [drop_nil (by omega)]
    simp)
  have HST : Hid (stepR s.size st = ({ st with rest := s.data.toList.drop p, toks := st.toks.modify n (fun t => { t with raw := anyQ Wd }), wait := st.wait ++ [⟨n, endL Wd, false⟩] } : LS).add 1 Wd (q : Int)) := hide (by
    rw [(unhide HD).step, unhide HIO]
    simp only [Bool.false_eq_true, if_false]
    congr 1
    unfold awaitL
    rw [show ({ st with rest := s.data.toList.drop p } : LS).toks.getLast? = some t from unhide HL]
    simp only
    rw [if_pos (.inl (unhide HTX)), show (t.text == BA [60, 60, 45]) = false by rw [unhide HTX]; decide, show st.toks.length - 1 = n by omega]
    rfl)
  obtain ⟨iW, hiW, hzW0, hzW1, hzW2⟩ := info_of info_rwt
  have HN5 := hide hn5
  have HSH := hide hsh5
  clear hrw hout hsh5 hwsz hn5
  go_upto_region 40 with fail
  clear hex
  obtain ⟨tb, htb⟩ : ∃ x, x = wr.heap.size := ⟨_, rfl⟩
  obtain ⟨wA, hwA⟩ : ∃ x, x = wr.alloc (.cells #[.int .i64 1, .string (BA Wd), .int .i64 (q : Int), .string ⟨#[]⟩, .bool false] 65) := ⟨_, rfl⟩
  rw [← htb, ← hwA]
  have hbA : Blk wA tb 65 #[.int .i64 1, .string (BA Wd), .int .i64 (q : Int), .string ⟨#[]⟩, .bool false] := by rw [hwA, htb]; exact Blk.new wr _ _
  have HRA : Hid (Rws w.heap.size wA (.slice (some ⟨g5, 0, none⟩) n5 cap5) u6 st) := hide (by rw [hwA]; exact ⟨World.ownsRow.alloc (unhide HD).at0.rws.out _, World.ownsRow.alloc (unhide HD).at0.rws.wts _⟩)
  have HBA : Hid (Below w.heap.size w wA) := hide (by rw [hwA]; exact (unhide HD).at0.below.alloc (unhide HD).at0.below.size _)
  have _HTG : Hid (w.heap.size ≤ tb) := hide (by rw [htb]; exact (unhide HD).at0.below.size)
  have HTN : Hid (some tb ≠ (Value.slice (some ⟨g5, 0, none⟩) n5 cap5).ownBlock) := hide (fun e => by have := (World.ownsRow.lt (unhide HD).at0.rws.out _ e.symm).2; omega)
  have a0 := hbA.cell 0 rfl
  have a1 := hbA.cell 1 rfl
  have a2 := hbA.cell 2 rfl
  have a3 := hbA.cell 3 rfl
  have a4 := hbA.cell 4 rfl
  have HBK := hide hbA
  have hfzA := hbA.frozen 0
  obtain ⟨adA, capA, heA, hA⟩ := out_shape (w := wA) (by have := (unhide HRA).out; rw [← unhide HN5] at this; exact this) (unhide HN5)
  injection heA with e1 e2 e3
  subst e1
  obtain ⟨gA, hgA, _, _, hfzr, cA⟩ := hA n t (unhide HT)
  injection hgA with hgA
  injection hgA with hgA
  subst hgA
  have d0 : wA.cell? ⟨g5, n * 5, none⟩ = some (.int .i64 t.kind) := cA 0 (.int .i64 t.kind) rfl (by decide)
  have d1 : wA.cell? ⟨g5, n * 5 + 1, none⟩ = some (.string t.text) := cA 1 _ rfl (by decide)
  have d4 : wA.cell? ⟨g5, n * 5 + 4, none⟩ = some (.bool t.raw) := cA 4 (.bool t.raw) rfl (by decide)
  have hfz4 := hfzr (n * 5 + 4)
  clear cA hA hfzr e3
  clear hwA htb hbA
  go_wp2_with fail
  refine (rquotes_any (BA Wd) _ (by have := unhide HWS; omega)).mono ?_
  rintro en w3 ⟨rfl, hw3⟩
  rw [show w3 = wA from hw3, show anyQ (BA Wd).data.toList = anyQ Wd by rw [BA_list]]
  clear hw3
  go_upto_region 44 with fail
  obtain ⟨wB, hwB⟩ : ∃ x, x = wA.setCell ⟨g5, n * 5 + 4, none⟩ (.bool (anyQ Wd)) := ⟨_, rfl⟩
  rw [← hwB]
  have hne : tb ≠ g5 := fun e => unhide HTN (by rw [e]; rfl)
  have HRB : Hid (Rws w.heap.size wB (.slice (some ⟨g5, 0, none⟩) n5 cap5) u6 { st with rest := s.data.toList.drop p, toks := st.toks.modify n (fun t => { t with raw := anyQ Wd }) }) := hide (by
    have ho := (unhide HRA).out
    rw [← unhide HN5] at ho
    have hst := World.ownsRow.stored ho (n * 5 + 4) (.bool (anyQ Wd))
    have hfl := flatT_set (fun t => { t with raw := anyQ Wd }) 4 (.bool (anyQ Wd)) (by decide) (fun t => rfl) st.toks n (by have := unhide HN5; omega)
    rw [hwB]
    refine ⟨?_, (unhide HRA).wts.kept hst.2 (by have := row_ne (unhide HRA).wts (unhide HRA).out (by decide); simpa [Value.ownBlock] using this)⟩
    have h1 := hst.1
    rw [hfl] at h1
    show World.ownsRow _ _ _ _ _ (st.toks.modify n _).length (flatT (st.toks.modify n _))
    rw [List.length_modify, ← unhide HN5]
    exact h1)
  have HBB : Hid (Below w.heap.size w wB) := hide (by rw [hwB]; exact (unhide HBA).setCell hb5 _)
  have HKB : Hid (Blk wB tb 65 #[.int .i64 1, .string (BA Wd), .int .i64 (q : Int), .string ⟨#[]⟩, .bool false]) := hide (by rw [hwB]; exact (unhide HBK).other hne _)
  clear hwB a0 a1 a2 a3 a4 d0 d1 d4 hfz4 hfzA
  have b1 := (unhide HKB).cell 1 rfl
  go_wp2_with fail
  refine (bare_any (BA Wd) _ (by have := unhide HWS; omega)).mono ?_
  rintro en w6 ⟨rfl, b6⟩
  rw [show endL (BA Wd).data.toList = endL Wd by rw [BA_list]]
  have HR6 := hide ((unhide HRB).keep b6)
  have HB6 := hide ((unhide HBB).trans (b6.mono (unhide HBB).size))
  have HK6 := hide ((unhide HKB).below b6 (unhide HKB).lt)
  have hwl : st.wait.length ≤ s.size := by have := (unhide HD).at0.few.wait; omega
  clear b6 b1
  obtain ⟨E, hE⟩ : ∃ E, E = endL Wd := ⟨_, rfl⟩
  rw [← hE]
  have HE := hide hE
  clear hE
  go_wp2_with (first
    | (at_builtin; refine wpList_append_own _ rfl (.tmp 217) (.tmp 223) 60 rfl w.heap.size 67 iW _ 2 24 und_rwt hiW hzW0 hzW1 hzW2 rfl (by decide) _ _ _ rfl (World.ownsRow.alloc (unhide HR6).wts _) ⟨w6.heap.size, 0, none⟩ 1 1 [.int .i64 (n : Int), .string (BA E)] rfl rfl two_cells two_val ?c3 ?c4 ?c5 ?_)
    | go_in)
  case c3 => unfold maxLen; omega
  case c4 => omega
  case c5 => have := (unhide HB6).size; simp; omega
  intro u7 w7 hownW hgrowW _
  have HRW : Hid (Rws w.heap.size w7 (.slice (some ⟨g5, 0, none⟩) n5 cap5) u7 { st with rest := s.data.toList.drop p, toks := st.toks.modify n (fun t => { t with raw := anyQ Wd }), wait := st.wait ++ [⟨n, endL Wd, false⟩] }) := hide ⟨(World.ownsRow.alloc (unhide HR6).out _).kept hgrowW (row_ne (unhide HR6).out (unhide HR6).wts (by decide)), by
    show World.ownsRow _ _ _ _ _ (st.wait ++ [_]).length (flatW (st.wait ++ [_]))
    rw [List.length_append, flatW_snoc, ← unhide HE]
    exact hownW⟩
  have HBC : Hid (Below w.heap.size w w7) := hide (((unhide HB6).alloc (unhide HB6).size _).grown hgrowW (by have := (unhide HB6).size; simp; omega) (fun j hj => (unhide HR6).lt.2 j hj))
  have HK7 := ((unhide HK6).alloc _).kept hgrowW (type_ne (unhide HR6).wts (unhide HK6) (by decide))
  have k0 := HK7.cell 0 rfl
  have k1 := HK7.cell 1 rfl
  have k2 := HK7.cell 2 rfl
  have k3 := HK7.cell 3 rfl
  have k4 := HK7.cell 4 rfl
  clear HK7 hownW hgrowW
  go_wp2_with (first
    | (at_builtin; refine wpList_append_own _ rfl (.tmp 225) (.tmp 227) 30 rfl w.heap.size 65 iT _ 5 56 und_rtok hiT hzT0 hzT1 hzT2 rfl (by decide) _ _ _ rfl (World.ownsRow.alloc (unhide HRW).out _) ⟨w7.heap.size, 0, none⟩ 1 1 [.int .i64 1, .string (BA Wd), .int .i64 (q : Int), .string ⟨#[]⟩, .bool false] rfl rfl five_cells five_val ?c3 ?c4 ?c5 ?_)
    | go_in)
  case c3 => unfold maxLen; omega
  case c4 => omega
  case c5 => have := (unhide HBC).size; simp; omega
  intro v' w8 hownN hgrowN _
  have HRN := hide (Rws.push (kind := 1) (pos := (q : Int)) (unhide HRW) (by rw [show ({ st with rest := s.data.toList.drop p, toks := st.toks.modify n (fun t => { t with raw := anyQ Wd }), wait := st.wait ++ [⟨n, endL Wd, false⟩] } : LS).toks.length = st.toks.length from List.length_modify _ _ _]; exact hownN) hgrowN)
  have HBn : Hid (Below w.heap.size w w8) := hide (((unhide HBC).alloc (unhide HBC).size _).grown hgrowN (by have := (unhide HBC).size; simp; omega) (fun j hj => (unhide HRW).lt.1 j hj))
  clear hownN hgrowN
  have HS := hide ((unhide HD).next (unhide HST) (unhide HD).at0.flt (unhide HD).at0.blm rfl (unhide HRN) (unhide HBn))
  clear HRN
  go_wp2
  exact ⟨WI_intro ⟨p, _, G, rfl, HS⟩, show s.size - p < s.size - q by omega⟩

set_option maxRecDepth 1000000 in
set_option maxHeartbeats 40000000 in
theorem tl_end_h3 {s : ByteArray} {w wr : World} {T st : LS} {q p G : Nat} {Wd : List UInt8} {Q1 : Exit → Act → World → Prop} {u2 u3 u4 u5 u6 u8 u9 u10 u11 u12 u13 u14 u15 u17 u18 u19 u23 u24 u25 u26 u27 u28 u29 u30 u31 u32 u33 u34 u35 u36 u37 u38 u39 u40 u41 u42 u43 u44 u45 u46 u47 u48 u49 u50 u51 u52 u53 u54 u55 u56 u57 u58 u59 u60 u61 u62 u63 u64 u65 u66 u67 u68 u69 u70 u71 u72 u73 u74 u75 u76 u77 u78 u79 u80 u81 u82 u83 u84 u85 u86 u87 u88 u89 u90 u91 u92 u93 u94 u95 u96 u97 u98 u99 u100 u101 u102 u103 u104 u105 u106 u107 u108 u109 u110 u111 u112 u113 u114 u115 u116 u117 u118 u119 u120 u121 u122 u123 u124 u125 u126 u127 u128 u129 u130 u131 u132 u133 u134 u135 u136 u137 u138 u139 u140 u141 u142 u143 u144 u145 u146 u147 u148 u149 u150 u151 u152 u153 u154 u155 u156 u157 u158 u159 u160 u161 u162 u163 u164 u165 u166 u167 u168 u169 u170 u171 u172 u173 u174 u175 u176 u177 u178 u179 u180 u181 u182 u183 u184 u185 u186 u187 u188 u189 u190 u191 u192 u193 u194 u195 u196 u197 u198 u199 u200 u201 u202 u203 u204 u205 u206 u207 u208 u209 u210 u211 u212 u213 u214 u215 u216 u217 u218 u219 u220 u221 u222 u223 u224 u225 u226 u227 u228 : Value} (hs : s.size ≤ 100000) (HD : Hid (WEnd w s T st u5 u6 q p Wd G wr)) (hp : ¬ p < s.size) {t : Tok} (HL : Hid (st.toks.getLast? = some t)) (HKD : Hid (t.kind = 2)) (HTX : Hid (t.text = BA [60, 60, 45])) :
    Code.wp Tryd.prog wdTail (Exit.inBlock 1 (Exit.then (fun a' w'' => WI w s T a' w'' ∧ Wmu s a' < s.size - q) Q1)) ⟨#[.string s, undef, u2, u3, u4, u5, u6, .int .i64 (p : Int), u8, u9, u10, u11, u12, u13, u14, u15, .int .i64 (q : Int), u17, u18, u19, .string s, .int .i64 (s.size : Int), .bool false, u23, u24, u25, u26, u27, u28, u29, u30, u31, u32, u33, u34, u35, u36, u37, u38, u39, u40, u41, u42, u43, u44, u45, u46, u47, u48, u49, u50, u51, u52, u53, u54, u55, u56, u57, u58, u59, u60, u61, u62, u63, u64, u65, u66, u67, u68, u69, u70, u71, u72, u73, u74, u75, u76, u77, u78, u79, u80, u81, u82, u83, u84, u85, u86, u87, u88, u89, u90, u91, u92, u93, u94, u95, u96, u97, u98, u99, u100, u101, u102, u103, u104, u105, u106, u107, u108, u109, u110, u111, u112, u113, u114, u115, u116, u117, u118, u119, u120, u121, u122, u123, u124, u125, u126, u127, u128, u129, u130, u131, u132, u133, u134, u135, u136, u137, u138, u139, u140, u141, u142, u143, u144, u145, u146, u147, u148, u149, u150, u151, u152, u153, u154, u155, u156, u157, u158, u159, u160, u161, u162, u163, u164, u165, u166, u167, u168, u169, u170, u171, u172, u173, u174, u175, u176, u177, u178, u179, u180, u181, u182, u183, u184, u185, u186, u187, u188, u189, u190, u191, u192, u193, u194, u195, u196, u197, u198, u199, u200, u201, u202, u203, u204, u205, u206, u207, u208, u209, u210, u211, u212, u213, u214, u215, u216, u217, u218, u219, u220, u221, u222, u223, u224, u225, u226, u227, u228, undef, undef, undef, undef, undef, undef, undef, undef, undef, undef, undef, undef, undef], []⟩ wr := by
  conv => arg 2; whnf
  obtain ⟨iT, hiT, hzT0, hzT1, hzT2⟩ := info_of info_rtok
  have hrw := (unhide HD).at0.rws
  have htl : st.toks.length ≤ s.size := (unhide HD).at0.few.toks
  obtain ⟨n5, hn5⟩ : ∃ n, n = st.toks.length := ⟨_, rfl⟩
  have hout := hrw.out
  rw [← hn5] at hout
  obtain ⟨ad5, cap5, he5, hsh5⟩ := out_shape hout hn5
  subst he5
  have hql := (unhide HD).qlt
  have hpl := (unhide HD).ple
  have hq0 : (0 : Int) ≤ (q : Int) := by omega
  have hp0 : (0 : Int) ≤ (p : Int) := by omega
  have hqp : (q : Int) ≤ (p : Int) := by omega
  have hps : (p : Int) ≤ (s.size : Int) := by omega
  have hex := (unhide HD).word
  have hwsz : (BA Wd).size = p - q := by
    rw [← (unhide HD).wlen]
    rfl
  have HWS := hide hwsz
  obtain ⟨n, hn⟩ : ∃ n, n5 = n + 1 := ⟨n5 - 1, by
    have : st.toks ≠ [] := fun e => by rw [e] at HL; exact absurd (unhide HL) (by simp)
    have := List.length_pos_iff.2 this
    omega⟩
  have ht : st.toks[n]? = some t := by
    have h1 := unhide HL
    rw [List.getLast?_eq_getElem?, ← hn5, hn] at h1
    exact h1
  have hwn : IntKind.i64.wrap ((n5 : Int) - 1) = (n : Int) := by rw [IntKind.wrap_i64]; omega
  have hn0 : (0 : Int) ≤ (n : Int) := by omega
  have hnl : (n : Int) < (n5 : Int) := by omega
  have hnn : n5 ≤ n + 1 ∧ n < n5 := by omega
  obtain ⟨g5, hg5, hb5, _, _, _⟩ := hsh5 n t ht
  subst hg5
  have HT := hide ht
  clear ht hn
  have hkd : (t.kind == 2) = true := by rw [unhide HKD]; rfl
  have hx1 : (t.text.toList == [60, 60]) = false := by rw [unhide HTX, ByteArray.toList_eq, BA_list]; decide
  have hx2 : (t.text.toList == [60, 60, 45]) = true := by rw [unhide HTX, ByteArray.toList_eq, BA_list]; decide
  have hp' : ¬ (p : Int) < (s.size : Int) := by omega
  have HIO : Hid ((digsB Wd && ((s.data.toList.drop p).head? == some 60 || (s.data.toList.drop p).head? == some 62)) = false) := hide (by
    rw [drop_nil (by omega)]
    simp)
  have HST : Hid (stepR s.size st = ({ st with rest := s.data.toList.drop p, toks := st.toks.modify n (fun t => { t with raw := anyQ Wd }), wait := st.wait ++ [⟨n, endL Wd, true⟩] } : LS).add 1 Wd (q : Int)) := hide (by
    rw [(unhide HD).step, unhide HIO]
    simp only [Bool.false_eq_true, if_false]
    congr 1
    unfold awaitL
    rw [show ({ st with rest := s.data.toList.drop p } : LS).toks.getLast? = some t from unhide HL]
    simp only
    rw [if_pos (.inr (unhide HTX)), show (t.text == BA [60, 60, 45]) = true by rw [unhide HTX]; decide, show st.toks.length - 1 = n by omega]
    rfl)
  obtain ⟨iW, hiW, hzW0, hzW1, hzW2⟩ := info_of info_rwt
  have HN5 := hide hn5
  have HSH := hide hsh5
  clear hrw hout hsh5 hwsz hn5
  go_upto_region 40 with fail
  clear hex
  obtain ⟨tb, htb⟩ : ∃ x, x = wr.heap.size := ⟨_, rfl⟩
  obtain ⟨wA, hwA⟩ : ∃ x, x = wr.alloc (.cells #[.int .i64 1, .string (BA Wd), .int .i64 (q : Int), .string ⟨#[]⟩, .bool false] 65) := ⟨_, rfl⟩
  rw [← htb, ← hwA]
  have hbA : Blk wA tb 65 #[.int .i64 1, .string (BA Wd), .int .i64 (q : Int), .string ⟨#[]⟩, .bool false] := by rw [hwA, htb]; exact Blk.new wr _ _
  have HRA : Hid (Rws w.heap.size wA (.slice (some ⟨g5, 0, none⟩) n5 cap5) u6 st) := hide (by rw [hwA]; exact ⟨World.ownsRow.alloc (unhide HD).at0.rws.out _, World.ownsRow.alloc (unhide HD).at0.rws.wts _⟩)
  have HBA : Hid (Below w.heap.size w wA) := hide (by rw [hwA]; exact (unhide HD).at0.below.alloc (unhide HD).at0.below.size _)
  have _HTG : Hid (w.heap.size ≤ tb) := hide (by rw [htb]; exact (unhide HD).at0.below.size)
  have HTN : Hid (some tb ≠ (Value.slice (some ⟨g5, 0, none⟩) n5 cap5).ownBlock) := hide (fun e => by have := (World.ownsRow.lt (unhide HD).at0.rws.out _ e.symm).2; omega)
  have a0 := hbA.cell 0 rfl
  have a1 := hbA.cell 1 rfl
  have a2 := hbA.cell 2 rfl
  have a3 := hbA.cell 3 rfl
  have a4 := hbA.cell 4 rfl
  have HBK := hide hbA
  have hfzA := hbA.frozen 0
  obtain ⟨adA, capA, heA, hA⟩ := out_shape (w := wA) (by have := (unhide HRA).out; rw [← unhide HN5] at this; exact this) (unhide HN5)
  injection heA with e1 e2 e3
  subst e1
  obtain ⟨gA, hgA, _, _, hfzr, cA⟩ := hA n t (unhide HT)
  injection hgA with hgA
  injection hgA with hgA
  subst hgA
  have d0 : wA.cell? ⟨g5, n * 5, none⟩ = some (.int .i64 t.kind) := cA 0 (.int .i64 t.kind) rfl (by decide)
  have d1 : wA.cell? ⟨g5, n * 5 + 1, none⟩ = some (.string t.text) := cA 1 _ rfl (by decide)
  have d4 : wA.cell? ⟨g5, n * 5 + 4, none⟩ = some (.bool t.raw) := cA 4 (.bool t.raw) rfl (by decide)
  have hfz4 := hfzr (n * 5 + 4)
  clear cA hA hfzr e3
  clear hwA htb hbA
  go_wp2_with fail
  refine (rquotes_any (BA Wd) _ (by have := unhide HWS; omega)).mono ?_
  rintro en w3 ⟨rfl, hw3⟩
  rw [show w3 = wA from hw3, show anyQ (BA Wd).data.toList = anyQ Wd by rw [BA_list]]
  clear hw3
  go_upto_region 44 with fail
  obtain ⟨wB, hwB⟩ : ∃ x, x = wA.setCell ⟨g5, n * 5 + 4, none⟩ (.bool (anyQ Wd)) := ⟨_, rfl⟩
  rw [← hwB]
  have hne : tb ≠ g5 := fun e => unhide HTN (by rw [e]; rfl)
  have HRB : Hid (Rws w.heap.size wB (.slice (some ⟨g5, 0, none⟩) n5 cap5) u6 { st with rest := s.data.toList.drop p, toks := st.toks.modify n (fun t => { t with raw := anyQ Wd }) }) := hide (by
    have ho := (unhide HRA).out
    rw [← unhide HN5] at ho
    have hst := World.ownsRow.stored ho (n * 5 + 4) (.bool (anyQ Wd))
    have hfl := flatT_set (fun t => { t with raw := anyQ Wd }) 4 (.bool (anyQ Wd)) (by decide) (fun t => rfl) st.toks n (by have := unhide HN5; omega)
    rw [hwB]
    refine ⟨?_, (unhide HRA).wts.kept hst.2 (by have := row_ne (unhide HRA).wts (unhide HRA).out (by decide); simpa [Value.ownBlock] using this)⟩
    have h1 := hst.1
    rw [hfl] at h1
    show World.ownsRow _ _ _ _ _ (st.toks.modify n _).length (flatT (st.toks.modify n _))
    rw [List.length_modify, ← unhide HN5]
    exact h1)
  have HBB : Hid (Below w.heap.size w wB) := hide (by rw [hwB]; exact (unhide HBA).setCell hb5 _)
  have HKB : Hid (Blk wB tb 65 #[.int .i64 1, .string (BA Wd), .int .i64 (q : Int), .string ⟨#[]⟩, .bool false]) := hide (by rw [hwB]; exact (unhide HBK).other hne _)
  clear hwB a0 a1 a2 a3 a4 d0 d1 d4 hfz4 hfzA
  have b1 := (unhide HKB).cell 1 rfl
  go_wp2_with fail
  refine (bare_any (BA Wd) _ (by have := unhide HWS; omega)).mono ?_
  rintro en w6 ⟨rfl, b6⟩
  rw [show endL (BA Wd).data.toList = endL Wd by rw [BA_list]]
  have HR6 := hide ((unhide HRB).keep b6)
  have HB6 := hide ((unhide HBB).trans (b6.mono (unhide HBB).size))
  have HK6 := hide ((unhide HKB).below b6 (unhide HKB).lt)
  have hwl : st.wait.length ≤ s.size := by have := (unhide HD).at0.few.wait; omega
  clear b6 b1
  obtain ⟨E, hE⟩ : ∃ E, E = endL Wd := ⟨_, rfl⟩
  rw [← hE]
  have HE := hide hE
  clear hE
  go_wp2_with (first
    | (at_builtin; refine wpList_append_own _ rfl (.tmp 217) (.tmp 223) 60 rfl w.heap.size 67 iW _ 2 24 und_rwt hiW hzW0 hzW1 hzW2 rfl (by decide) _ _ _ rfl (World.ownsRow.alloc (unhide HR6).wts _) ⟨w6.heap.size, 0, none⟩ 1 1 [.int .i64 (n : Int), .string (BA E)] rfl rfl two_cells two_val ?c3 ?c4 ?c5 ?_)
    | go_in)
  case c3 => unfold maxLen; omega
  case c4 => omega
  case c5 => have := (unhide HB6).size; simp; omega
  intro u7 w7 hownW hgrowW _
  have HRW : Hid (Rws w.heap.size w7 (.slice (some ⟨g5, 0, none⟩) n5 cap5) u7 { st with rest := s.data.toList.drop p, toks := st.toks.modify n (fun t => { t with raw := anyQ Wd }), wait := st.wait ++ [⟨n, endL Wd, true⟩] }) := hide ⟨(World.ownsRow.alloc (unhide HR6).out _).kept hgrowW (row_ne (unhide HR6).out (unhide HR6).wts (by decide)), by
    show World.ownsRow _ _ _ _ _ (st.wait ++ [_]).length (flatW (st.wait ++ [_]))
    rw [List.length_append, flatW_snoc, ← unhide HE]
    exact hownW⟩
  have HBC : Hid (Below w.heap.size w w7) := hide (((unhide HB6).alloc (unhide HB6).size _).grown hgrowW (by have := (unhide HB6).size; simp; omega) (fun j hj => (unhide HR6).lt.2 j hj))
  have HK7 := ((unhide HK6).alloc _).kept hgrowW (type_ne (unhide HR6).wts (unhide HK6) (by decide))
  have k0 := HK7.cell 0 rfl
  have k1 := HK7.cell 1 rfl
  have k2 := HK7.cell 2 rfl
  have k3 := HK7.cell 3 rfl
  have k4 := HK7.cell 4 rfl
  clear HK7 hownW hgrowW
  go_wp2_with (first
    | (at_builtin; refine wpList_append_own _ rfl (.tmp 225) (.tmp 227) 30 rfl w.heap.size 65 iT _ 5 56 und_rtok hiT hzT0 hzT1 hzT2 rfl (by decide) _ _ _ rfl (World.ownsRow.alloc (unhide HRW).out _) ⟨w7.heap.size, 0, none⟩ 1 1 [.int .i64 1, .string (BA Wd), .int .i64 (q : Int), .string ⟨#[]⟩, .bool false] rfl rfl five_cells five_val ?c3 ?c4 ?c5 ?_)
    | go_in)
  case c3 => unfold maxLen; omega
  case c4 => omega
  case c5 => have := (unhide HBC).size; simp; omega
  intro v' w8 hownN hgrowN _
  have HRN := hide (Rws.push (kind := 1) (pos := (q : Int)) (unhide HRW) (by rw [show ({ st with rest := s.data.toList.drop p, toks := st.toks.modify n (fun t => { t with raw := anyQ Wd }), wait := st.wait ++ [⟨n, endL Wd, true⟩] } : LS).toks.length = st.toks.length from List.length_modify _ _ _]; exact hownN) hgrowN)
  have HBn : Hid (Below w.heap.size w w8) := hide (((unhide HBC).alloc (unhide HBC).size _).grown hgrowN (by have := (unhide HBC).size; simp; omega) (fun j hj => (unhide HRW).lt.1 j hj))
  clear hownN hgrowN
  have HS := hide ((unhide HD).next (unhide HST) (unhide HD).at0.flt (unhide HD).at0.blm rfl (unhide HRN) (unhide HBn))
  clear HRN
  go_wp2
  exact ⟨WI_intro ⟨p, _, G, rfl, HS⟩, show s.size - p < s.size - q by omega⟩

end Go.Proofs.YtlmpdfeidjnmnaaDoor

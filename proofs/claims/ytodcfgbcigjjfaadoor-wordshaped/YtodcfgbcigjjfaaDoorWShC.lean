/-
  The law's shaped: each test, whatever the part is.
-/
import Derived.Test.YtodcfgbcigjjfaaDoorWSh5
import Derived.Test.YtodcfgbcigjjfaaDoorWSh7
import Derived.Test.YtodcfgbcigjjfaaDoorWSh9
namespace Go.Proofs.YtodcfgbcigjjfaaDoor
open Go.RowKit

set_option maxRecDepth 1000000 in
set_option maxHeartbeats 40000000 in
theorem sh5 {W : World} {nb : Nat} {K : Act → World → Prop} {Q : Exit → Act → World → Prop} {u0 u1 u2 u3 u5 u6 u7 u8 u9 u10 u11 u12 u13 u14 u15 u16 u17 u18 u19 u20 u21 u22 u23 u24 u25 u26 u27 u28 u29 u30 u31 u32 u33 u34 u35 u36 u37 u38 u39 u40 u41 u42 u43 u44 u45 u46 u47 u48 u49 u50 u51 u52 u53 u54 u55 u56 u57 u58 u59 u60 u61 u62 u63 u64 u65 u66 u67 u68 u69 u70 u71 u72 u73 u74 u75 u76 u77 u78 u79 u80 u81 u82 u83 u84 u85 u86 u87 u88 u89 u90 u91 u92 u93 u94 u95 u96 u97 u98 u99 u100 u101 u102 u103 u104 u105 u106 u107 u108 u109 u110 u111 u112 : Value} {kd op : Int} {c : Bool} (e0 : W.cell? ⟨nb, 0, none⟩ = some (.int .i64 kd)) (e3 : W.cell? ⟨nb, 3, none⟩ = some (.int .i64 op)) (e4 : W.cell? ⟨nb, 4, none⟩ = some (.bool c)) (s1 : 1 ≤ kd) (s2 : kd ≤ 4) (s3 : 0 ≤ op) (s4 : op ≤ 9) (s5 : kd ≠ 2 → op = 0 ∧ c = false) (hK : ∀ F : Nat → Value, K ⟨#[u0, u1, u2, u3, .pointer (some ⟨nb, 0, none⟩), F 5, F 6, F 7, F 8, F 9, F 10, F 11, F 12, F 13, F 14, F 15, F 16, F 17, F 18, F 19, F 20, F 21, F 22, F 23, F 24, F 25, F 26, F 27, F 28, F 29, F 30, F 31, F 32, F 33, F 34, F 35, F 36, F 37, F 38, F 39, F 40, F 41, F 42, F 43, F 44, F 45, .bool false, F 47, F 48, F 49, F 50, F 51, F 52, F 53, F 54, F 55, F 56, F 57, F 58, F 59, F 60, F 61, F 62, F 63, F 64, F 65, F 66, F 67, F 68, F 69, F 70, F 71, F 72, F 73, F 74, F 75, F 76, F 77, F 78, F 79, F 80, F 81, F 82, F 83, F 84, F 85, F 86, F 87, F 88, F 89, F 90, F 91, F 92, F 93, F 94, F 95, F 96, F 97, F 98, F 99, F 100, F 101, F 102, F 103, F 104, F 105, F 106, F 107, F 108, F 109, F 110, F 111, F 112], []⟩ W) :
    Code.wp Tryd.prog (shReg 5) (Exit.then K Q) ⟨#[u0, u1, u2, u3, .pointer (some ⟨nb, 0, none⟩), u5, u6, u7, u8, u9, u10, u11, u12, u13, u14, u15, u16, u17, u18, u19, u20, u21, u22, u23, u24, u25, u26, u27, u28, u29, u30, u31, u32, u33, u34, u35, u36, u37, u38, u39, u40, u41, u42, u43, u44, u45, u46, u47, u48, u49, u50, u51, u52, u53, u54, u55, u56, u57, u58, u59, u60, u61, u62, u63, u64, u65, u66, u67, u68, u69, u70, u71, u72, u73, u74, u75, u76, u77, u78, u79, u80, u81, u82, u83, u84, u85, u86, u87, u88, u89, u90, u91, u92, u93, u94, u95, u96, u97, u98, u99, u100, u101, u102, u103, u104, u105, u106, u107, u108, u109, u110, u111, u112], []⟩ W := by
  by_cases h : kd = 2
  · subst h
    exact sh5_two e0 e3 (by simp; omega) (by simp; omega) hK
  · obtain ⟨rfl, rfl⟩ := s5 h
    exact sh5_not e0 e3 e4 (by simp; omega) (by simp; omega) (by simpa using h) hK
set_option maxRecDepth 1000000 in
set_option maxHeartbeats 40000000 in
theorem sh7 {W : World} {nb : Nat} {K : Act → World → Prop} {Q : Exit → Act → World → Prop} {u1 u2 u5 u6 u7 u8 u9 u10 u11 u12 u13 u14 u15 u16 u17 u18 u19 u20 u21 u22 u23 u24 u25 u26 u27 u28 u29 u30 u31 u32 u33 u34 u35 u36 u37 u38 u39 u40 u41 u42 u43 u44 u45 u46 u47 u48 u49 u50 u51 u52 u53 u54 u55 u56 u57 u58 u59 u60 u61 u62 u63 u64 u65 u66 u67 u68 u69 u70 u71 u72 u73 u74 u75 u76 u77 u78 u79 u80 u81 u82 u83 u84 u85 u86 u87 u88 u89 u90 u91 u92 u93 u94 u95 u96 u97 u98 u99 u100 u101 u102 u103 u104 u105 u106 u107 u108 u109 u110 u111 u112 : Value} {k : Nat} {g o n cap : Nat} {kd : Int} {q : Bool} {t : List UInt8} (e0 : W.cell? ⟨nb, 0, none⟩ = some (.int .i64 kd)) (e1 : W.cell? ⟨nb, 1, none⟩ = some (.string (BA t))) (e2 : W.cell? ⟨nb, 2, none⟩ = some (.bool q)) (s6 : kd = 1 → q = false → t ≠ []) (hP : k = 0 ∨ ∃ (j : Nat) (kd' : Int) (q' : Bool), k = j + 1 ∧ W.cell? ⟨g, o + j * 6, none⟩ = some (.int .i64 kd') ∧ W.cell? ⟨g, o + j * 6 + 2, none⟩ = some (.bool q') ∧ (kd' = 1 → kd = 1 → q' ≠ q)) (hkn : k < n) (hn : n ≤ 9223372036854775807) (hK : ∀ (m : Nat) (F : Nat → Value), K ⟨#[.slice (some ⟨g, o, none⟩) n cap, u1, u2, .int .i64 (k : Int), .pointer (some ⟨nb, 0, none⟩), F 5, F 6, F 7, F 8, F 9, F 10, F 11, F 12, F 13, F 14, F 15, F 16, F 17, F 18, F 19, F 20, F 21, F 22, F 23, F 24, F 25, F 26, F 27, F 28, F 29, F 30, F 31, F 32, F 33, F 34, F 35, F 36, F 37, F 38, F 39, F 40, F 41, F 42, F 43, F 44, F 45, F 46, F 47, F 48, F 49, F 50, F 51, F 52, F 53, F 54, F 55, F 56, F 57, F 58, F 59, F 60, F 61, F 62, F 63, F 64, F 65, F 66, F 67, F 68, F 69, F 70, F 71, F 72, F 73, F 74, F 75, F 76, F 77, F 78, F 79, F 80, F 81, F 82, .bool false, F 84, F 85, F 86, F 87, F 88, F 89, F 90, F 91, F 92, F 93, F 94, F 95, F 96, F 97, F 98, F 99, F 100, F 101, F 102, F 103, F 104, F 105, F 106, F 107, F 108, F 109, F 110, F 111, F 112], []⟩ (W.drewN m)) :
    Code.wp Tryd.prog (shReg 7) (Exit.then K Q) ⟨#[.slice (some ⟨g, o, none⟩) n cap, u1, u2, .int .i64 (k : Int), .pointer (some ⟨nb, 0, none⟩), u5, u6, u7, u8, u9, u10, u11, u12, u13, u14, u15, u16, u17, u18, u19, u20, u21, u22, u23, u24, u25, u26, u27, u28, u29, u30, u31, u32, u33, u34, u35, u36, u37, u38, u39, u40, u41, u42, u43, u44, u45, u46, u47, u48, u49, u50, u51, u52, u53, u54, u55, u56, u57, u58, u59, u60, u61, u62, u63, u64, u65, u66, u67, u68, u69, u70, u71, u72, u73, u74, u75, u76, u77, u78, u79, u80, u81, u82, u83, u84, u85, u86, u87, u88, u89, u90, u91, u92, u93, u94, u95, u96, u97, u98, u99, u100, u101, u102, u103, u104, u105, u106, u107, u108, u109, u110, u111, u112], []⟩ W := by
  by_cases h : kd = 1
  · subst h
    have hem : q = false → (BA t).toList.isEmpty = false := fun h => by
      rw [BA_toList]
      cases t with
      | nil => exact absurd rfl (s6 rfl h)
      | cons _ _ => rfl
    rcases hP with hk0 | ⟨j, kd', q', hj, d0, d2, hne⟩
    · cases q with
      | true => exact sh7_q0 e0 e2 (by omega) hK
      | false => exact sh7_b0 e0 e1 e2 (by omega) (hem rfl) hK
    · have hjw : IntKind.i64.wrap ((k : Int) - 1) = (j : Int) := by rw [IntKind.wrap_i64]; omega
      have h3 : decide (0 < k) = true := by simp; omega
      by_cases hkd : kd' = 1
      · subst hkd
        have hqq := hne rfl rfl
        cases q with
        | true =>
          obtain rfl : q' = false := by cases q' with | false => rfl | true => exact absurd rfl hqq
          exact sh7_qb e0 e2 h3 hjw (by omega) (by omega) d0 d2 hK
        | false =>
          obtain rfl : q' = true := by cases q' with | true => rfl | false => exact absurd rfl hqq
          exact sh7_bq e0 e1 e2 h3 hjw (by omega) (by omega) d0 d2 (hem rfl) hK
      · have hkd' : (kd' == 1) = false := by simpa using hkd
        cases q with
        | true => exact sh7_qn e0 e2 h3 hjw (by omega) (by omega) d0 hkd' hK
        | false => exact sh7_bn e0 e1 e2 h3 hjw (by omega) (by omega) d0 hkd' (hem rfl) hK
  · exact sh7_not e0 (by simpa using h) hK
set_option maxRecDepth 1000000 in
set_option maxHeartbeats 40000000 in
theorem sh9 {W : World} {nb : Nat} {K : Act → World → Prop} {Q : Exit → Act → World → Prop} {u0 u1 u2 u3 u5 u6 u7 u8 u9 u10 u11 u12 u13 u14 u15 u16 u17 u18 u19 u20 u21 u22 u23 u24 u25 u26 u27 u28 u29 u30 u31 u32 u33 u34 u35 u36 u37 u38 u39 u40 u41 u42 u43 u44 u45 u46 u47 u48 u49 u50 u51 u52 u53 u54 u55 u56 u57 u58 u59 u60 u61 u62 u63 u64 u65 u66 u67 u68 u69 u70 u71 u72 u73 u74 u75 u76 u77 u78 u79 u80 u81 u82 u83 u84 u85 u86 u87 u88 u89 u90 u91 u92 u93 u94 u95 u96 u97 u98 u99 u100 u101 u102 u103 u104 u105 u106 u107 u108 u109 u110 u111 u112 : Value} {va : Option Addr} {vc m : Nat} {op : Int} {c : Bool} (e3 : W.cell? ⟨nb, 3, none⟩ = some (.int .i64 op)) (e4 : W.cell? ⟨nb, 4, none⟩ = some (.bool c)) (e5 : W.cell? ⟨nb, 5, none⟩ = some (.slice va m vc)) (s7 : op < 2 → m = 0) (s8 : c = true → 2 ≤ op ∧ op ≤ 5) (HC : Hid (Calls Tryd.prog 16 #[.slice va m vc] W fun e w' => e = .returned (.bool true) ∧ Below W.heap.size W w')) (HK : Hid (∀ (w1 : World) (F : Nat → Value), Below W.heap.size W w1 → K ⟨#[u0, u1, u2, u3, .pointer (some ⟨nb, 0, none⟩), F 5, F 6, F 7, F 8, F 9, F 10, F 11, F 12, F 13, F 14, F 15, F 16, F 17, F 18, F 19, F 20, F 21, F 22, F 23, F 24, F 25, F 26, F 27, F 28, F 29, F 30, F 31, F 32, F 33, F 34, F 35, F 36, F 37, F 38, F 39, F 40, F 41, F 42, F 43, F 44, F 45, F 46, F 47, F 48, F 49, F 50, F 51, F 52, F 53, F 54, F 55, F 56, F 57, F 58, F 59, F 60, F 61, F 62, F 63, F 64, F 65, F 66, F 67, F 68, F 69, F 70, F 71, F 72, F 73, F 74, F 75, F 76, F 77, F 78, F 79, F 80, F 81, F 82, F 83, F 84, F 85, F 86, F 87, F 88, F 89, F 90, F 91, F 92, F 93, F 94, F 95, F 96, F 97, F 98, F 99, F 100, F 101, F 102, F 103, F 104, F 105, F 106, F 107, F 108, F 109, F 110, F 111, .bool false], []⟩ w1)) :
    Code.wp Tryd.prog (shReg 9) (Exit.then K Q) ⟨#[u0, u1, u2, u3, .pointer (some ⟨nb, 0, none⟩), u5, u6, u7, u8, u9, u10, u11, u12, u13, u14, u15, u16, u17, u18, u19, u20, u21, u22, u23, u24, u25, u26, u27, u28, u29, u30, u31, u32, u33, u34, u35, u36, u37, u38, u39, u40, u41, u42, u43, u44, u45, u46, u47, u48, u49, u50, u51, u52, u53, u54, u55, u56, u57, u58, u59, u60, u61, u62, u63, u64, u65, u66, u67, u68, u69, u70, u71, u72, u73, u74, u75, u76, u77, u78, u79, u80, u81, u82, u83, u84, u85, u86, u87, u88, u89, u90, u91, u92, u93, u94, u95, u96, u97, u98, u99, u100, u101, u102, u103, u104, u105, u106, u107, u108, u109, u110, u111, u112], []⟩ W := by
  by_cases h : op < 2
  · have h0 := s7 h
    cases c with
    | false => exact sh9_low e3 e4 e5 (by simpa using h) (by omega) HC HK
    | true => have := s8 rfl; omega
  · cases c with
    | false => exact sh9_no e3 e4 e5 (by simpa using h) HC HK
    | true => exact sh9_yes e3 e4 e5 (by simpa using h) (by have := s8 rfl; simp; omega) HC HK

end Go.Proofs.YtodcfgbcigjjfaaDoor

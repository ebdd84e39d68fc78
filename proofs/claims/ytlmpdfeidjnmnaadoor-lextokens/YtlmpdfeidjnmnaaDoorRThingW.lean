/-
  The document's 'thing', by its first bytes, and its 'Piece'.
-/
import Derived.Test.YtlmpdfeidjnmnaaDoorRThing
import Derived.Test.YtlmpdfeidjnmnaaDoorPiece
namespace Go.Proofs.YtlmpdfeidjnmnaaDoor
open Go.RowKit

theorem at_new {w : World} {x0 x1 x2 : Value} : Below w.heap.size w (w.alloc (.cells #[x0, x1, x2] 48)) := (Below.refl _ w).alloc (Nat.le_refl _) _

set_option maxRecDepth 20000 in
set_option maxHeartbeats 8000000 in
theorem rthing_92 (w : World) (s : ByteArray) (p d wh : Nat) (r : List UInt8) (hm : s.data.toList.drop p = 92 :: r) (hs : s.size ≤ 100000) (hw5 : wh = 0 ∨ wh = 1 ∨ wh = 2 ∨ wh = 3 ∨ wh = 4) (wv dv : Int) (hwv : wv = (wh : Int)) (hdv : dv = (d : Int)) :
    Calls Tryd.prog 17 #[.string s, .int .i64 (p : Int), .int .i64 wv, .int .i64 dv] w fun e w' => e = .returned (AtV s (.ok (r.drop 1))) ∧ Below w.heap.size w w' := by
  obtain ⟨hlt, hd1⟩ := drop_step hm
  have hc := get_of hm hlt
  have hlt' : (p : Int) < (s.size : Int) := by omega
  have HM := hide hm
  have HD1 := hide hd1
  subst hdv
  have hcv : (s[p].toNat : Int) = 92 := by rw [hc]; rfl
  obtain ⟨q2, hq2⟩ : ∃ x, x = p + 2 := ⟨_, rfl⟩
  have hwq : IntKind.i64.wrap ((p : Int) + 2) = (q2 : Int) := by rw [IntKind.wrap_i64]; omega
  obtain ⟨q, hq⟩ : ∃ x, x = min q2 s.size := ⟨_, rfl⟩
  have hmn : min (q2 : Int) (s.size : Int) = (q : Int) := by omega
  have hdq : s.data.toList.drop q = r.drop 1 := by
    by_cases hb : p + 2 ≤ s.size
    · rw [show q = p + 1 + 1 by omega, ← List.drop_drop, hd1]
    · have : r.length = 0 := by rw [← hd1, List.length_drop, data_len]; omega
      rw [List.eq_nil_of_length_eq_zero this, drop_nil (show s.size ≤ q by omega)]
      rfl
  have HV : Hid (AtV s (.ok (r.drop 1)) = .agg #[.int .i64 (q : Int), .int .i64 0, .int .i64 0]) := hide (by rw [AtV_ok, ← hdq, place_of (by omega)])
  clear hq hq2 hdq
  clear hm hd1 hc
  rcases hw5 with rfl | rfl | rfl | rfl | rfl
  all_goals
    subst hwv
  all_goals
    go_enter Tryd.func17, Tryd.ntmps17
    go_wp2
    first
      | refine bodyPost_ret (results_at rfl _ _ w.heap.size _ _ _ rfl (Blk.new w _ _)) rfl ?_
      | refine bodyPost_ret (results_at rfl _ _ w.heap.size _ _ _ rfl (set3_blk (Blk.new w _ _) _ _ _)) rfl ?_
    rw [unhide HV]
    first
      | exact ⟨rfl, at_new⟩
      | exact ⟨rfl, at_new.trans (below_some (set3_grown _ w.heap.size _ _ _) (by simp))⟩

set_option maxRecDepth 20000 in
set_option maxHeartbeats 8000000 in
theorem rthing_34 (w : World) (s : ByteArray) (p d wh F : Nat) (r : List UInt8) (hm : s.data.toList.drop p = 34 :: r) (hs : s.size ≤ 100000) (hw5 : wh = 0 ∨ wh = 1 ∨ wh = 2 ∨ wh = 3 ∨ wh = 4) (hd : d ≤ 40) (h1 : wh ≠ 1) {N : Nat} (hT : RT N) (hN : s.size ≤ p + 1 + N) (hF : 3 * (s.size - p) + 2 ≤ F) (wv dv : Int) (hwv : wv = (wh : Int)) (hdv : dv = (d : Int)) :
    Calls Tryd.prog 17 #[.string s, .int .i64 (p : Int), .int .i64 wv, .int .i64 dv] w fun e w' => e = .returned (AtV s (cls F r (34 :: r) 34 1 d)) ∧ Below w.heap.size w w' := by
  obtain ⟨hlt, hd1⟩ := drop_step hm
  have hc := get_of hm hlt
  have hlt' : (p : Int) < (s.size : Int) := by omega
  have HM := hide hm
  have HD1 := hide hd1
  subst hdv
  have hcv : (s[p].toNat : Int) = 34 := by rw [hc]; rfl
  have hrl : r.length = s.size - (p + 1) := by rw [← hd1, List.length_drop, data_len]
  have HCL := hide (fun W => rclosed_any hT W s (p + 1) (p) d 1 F 34 (by omega) (by omega) hs (by omega) (by decide) hd (by omega))
  obtain ⟨T, hTe⟩ : ∃ x, x = cls F r (34 :: r) 34 1 d := ⟨_, rfl⟩
  have hcv2 : cls F (s.data.toList.drop (p + 1)) (s.data.toList.drop (p)) 34 1 d = T := by rw [hTe]; rw [hm, hd1]
  rw [hcv2] at HCL
  rw [← hTe]
  obtain ⟨q1, hq1⟩ : ∃ x, x = p + 1 := ⟨_, rfl⟩
  have hwq1 : IntKind.i64.wrap ((p : Int) + 1) = (q1 : Int) := by rw [IntKind.wrap_i64]; omega
  rw [← hq1] at HCL
  clear hTe hcv2 hq1
  clear hm hd1 hc
  rcases hw5 with rfl | rfl | rfl | rfl | rfl
  all_goals
    subst hwv
    first
      | exact absurd rfl h1
      | skip
  all_goals
    go_enter Tryd.func17, Tryd.ntmps17
    go_wp2_with fail
    refine (unhide HCL _ _ _ _ _ _ rfl rfl rfl rfl rfl).mono ?_
    rintro en w5 ⟨rfl, b5⟩
    have h5 := (Blk.new w 48 #[.int .i64 0, .int .i64 0, .int .i64 0]).below b5 (by simp)
    have B5 := hide (at_new.trans (b5.mono (by simp)))
    have H5 := hide h5
    rcases T with rr | ⟨ee, rr⟩
    all_goals
      have z0 := (unhide H5).frozen 0
      have z1 := (unhide H5).frozen 1
      have z2 := (unhide H5).frozen 2
      have y0 := (unhide H5).cell 0 (v := .int .i64 0) rfl
      have y1 := (unhide H5).cell 1 (v := .int .i64 0) rfl
      have y2 := (unhide H5).cell 2 (v := .int .i64 0) rfl
      first
        | rw [AtV_ok]
        | rw [AtV_err]
      obtain ⟨bb, hbb⟩ : ∃ y : Int, y = ((s.size - rr.length : Nat) : Int) := ⟨_, rfl⟩
      rw [← hbb]
      have HBB := hide hbb
      clear hbb
      go_wp2
      refine bodyPost_ret (results_at rfl _ _ w.heap.size _ _ _ rfl (set3_blk (unhide H5) _ _ _)) rfl ?_
      refine ⟨?_, (unhide B5).trans (below_some (set3_grown w5 w.heap.size _ _ _) (Nat.le_of_lt (unhide H5).lt))⟩
      first
        | rw [AtV_ok, ← unhide HBB]
        | rw [AtV_err, ← unhide HBB]

set_option maxRecDepth 20000 in
set_option maxHeartbeats 8000000 in
theorem rthing_34in (w : World) (s : ByteArray) (p d wh : Nat) (r : List UInt8) (hm : s.data.toList.drop p = 34 :: r) (hs : s.size ≤ 100000) (hw5 : wh = 0 ∨ wh = 1 ∨ wh = 2 ∨ wh = 3 ∨ wh = 4) (h1 : wh = 1) (wv dv : Int) (hwv : wv = (wh : Int)) (hdv : dv = (d : Int)) :
    Calls Tryd.prog 17 #[.string s, .int .i64 (p : Int), .int .i64 wv, .int .i64 dv] w fun e w' => e = .returned (AtV s (.ok r)) ∧ Below w.heap.size w w' := by
  obtain ⟨hlt, hd1⟩ := drop_step hm
  have hc := get_of hm hlt
  have hlt' : (p : Int) < (s.size : Int) := by omega
  have HM := hide hm
  have HD1 := hide hd1
  subst hdv
  have hcv : (s[p].toNat : Int) = 34 := by rw [hc]; rfl
  obtain ⟨q, hq⟩ : ∃ x, x = p + 1 := ⟨_, rfl⟩
  have hwq : IntKind.i64.wrap ((p : Int) + 1) = (q : Int) := by rw [IntKind.wrap_i64]; omega
  have HV : Hid (AtV s (.ok r) = .agg #[.int .i64 (q : Int), .int .i64 0, .int .i64 0]) := hide (by rw [AtV_ok, ← hd1, place_of (by omega), hq])
  clear hq
  clear hm hd1 hc
  rcases hw5 with rfl | rfl | rfl | rfl | rfl
  all_goals
    subst hwv
    first
      | exact absurd h1 (by decide)
      | skip
  all_goals
    go_enter Tryd.func17, Tryd.ntmps17
    go_wp2
    first
      | refine bodyPost_ret (results_at rfl _ _ w.heap.size _ _ _ rfl (Blk.new w _ _)) rfl ?_
      | refine bodyPost_ret (results_at rfl _ _ w.heap.size _ _ _ rfl (set3_blk (Blk.new w _ _) _ _ _)) rfl ?_
    rw [unhide HV]
    first
      | exact ⟨rfl, at_new⟩
      | exact ⟨rfl, at_new.trans (below_some (set3_grown _ w.heap.size _ _ _) (by simp))⟩

set_option maxRecDepth 20000 in
set_option maxHeartbeats 8000000 in
theorem rthing_40 (w : World) (s : ByteArray) (p d wh F : Nat) (r : List UInt8) (hm : s.data.toList.drop p = 40 :: r) (hs : s.size ≤ 100000) (hw5 : wh = 0 ∨ wh = 1 ∨ wh = 2 ∨ wh = 3 ∨ wh = 4) (hd : d ≤ 40) (h4 : wh = 4) {N : Nat} (hT : RT N) (hN : s.size ≤ p + 1 + N) (hF : 3 * (s.size - p) + 2 ≤ F) (wv dv : Int) (hwv : wv = (wh : Int)) (hdv : dv = (d : Int)) :
    Calls Tryd.prog 17 #[.string s, .int .i64 (p : Int), .int .i64 wv, .int .i64 dv] w fun e w' => e = .returned (AtV s (cls F r (40 :: r) 41 4 d)) ∧ Below w.heap.size w w' := by
  obtain ⟨hlt, hd1⟩ := drop_step hm
  have hc := get_of hm hlt
  have hlt' : (p : Int) < (s.size : Int) := by omega
  have HM := hide hm
  have HD1 := hide hd1
  subst hdv
  have hcv : (s[p].toNat : Int) = 40 := by rw [hc]; rfl
  have hrl : r.length = s.size - (p + 1) := by rw [← hd1, List.length_drop, data_len]
  have HCL := hide (fun W => rclosed_any hT W s (p + 1) (p) d 4 F 41 (by omega) (by omega) hs (by omega) (by decide) hd (by omega))
  obtain ⟨T, hTe⟩ : ∃ x, x = cls F r (40 :: r) 41 4 d := ⟨_, rfl⟩
  have hcv2 : cls F (s.data.toList.drop (p + 1)) (s.data.toList.drop (p)) 41 4 d = T := by rw [hTe]; rw [hm, hd1]
  rw [hcv2] at HCL
  rw [← hTe]
  obtain ⟨q1, hq1⟩ : ∃ x, x = p + 1 := ⟨_, rfl⟩
  have hwq1 : IntKind.i64.wrap ((p : Int) + 1) = (q1 : Int) := by rw [IntKind.wrap_i64]; omega
  rw [← hq1] at HCL
  clear hTe hcv2 hq1
  clear hm hd1 hc
  rcases hw5 with rfl | rfl | rfl | rfl | rfl
  all_goals
    subst hwv
    first
      | exact absurd h4 (by decide)
      | skip
  all_goals
    go_enter Tryd.func17, Tryd.ntmps17
    go_wp2_with fail
    refine (unhide HCL _ _ _ _ _ _ rfl rfl rfl rfl rfl).mono ?_
    rintro en w5 ⟨rfl, b5⟩
    have h5 := (Blk.new w 48 #[.int .i64 0, .int .i64 0, .int .i64 0]).below b5 (by simp)
    have B5 := hide (at_new.trans (b5.mono (by simp)))
    have H5 := hide h5
    rcases T with rr | ⟨ee, rr⟩
    all_goals
      have z0 := (unhide H5).frozen 0
      have z1 := (unhide H5).frozen 1
      have z2 := (unhide H5).frozen 2
      have y0 := (unhide H5).cell 0 (v := .int .i64 0) rfl
      have y1 := (unhide H5).cell 1 (v := .int .i64 0) rfl
      have y2 := (unhide H5).cell 2 (v := .int .i64 0) rfl
      first
        | rw [AtV_ok]
        | rw [AtV_err]
      obtain ⟨bb, hbb⟩ : ∃ y : Int, y = ((s.size - rr.length : Nat) : Int) := ⟨_, rfl⟩
      rw [← hbb]
      have HBB := hide hbb
      clear hbb
      go_wp2
      refine bodyPost_ret (results_at rfl _ _ w.heap.size _ _ _ rfl (set3_blk (unhide H5) _ _ _)) rfl ?_
      refine ⟨?_, (unhide B5).trans (below_some (set3_grown w5 w.heap.size _ _ _) (Nat.le_of_lt (unhide H5).lt))⟩
      first
        | rw [AtV_ok, ← unhide HBB]
        | rw [AtV_err, ← unhide HBB]

set_option maxRecDepth 20000 in
set_option maxHeartbeats 8000000 in
theorem rthing_40out (w : World) (s : ByteArray) (p d wh : Nat) (r : List UInt8) (hm : s.data.toList.drop p = 40 :: r) (hs : s.size ≤ 100000) (hw5 : wh = 0 ∨ wh = 1 ∨ wh = 2 ∨ wh = 3 ∨ wh = 4) (h4 : wh ≠ 4) (wv dv : Int) (hwv : wv = (wh : Int)) (hdv : dv = (d : Int)) :
    Calls Tryd.prog 17 #[.string s, .int .i64 (p : Int), .int .i64 wv, .int .i64 dv] w fun e w' => e = .returned (AtV s (.ok r)) ∧ Below w.heap.size w w' := by
  obtain ⟨hlt, hd1⟩ := drop_step hm
  have hc := get_of hm hlt
  have hlt' : (p : Int) < (s.size : Int) := by omega
  have HM := hide hm
  have HD1 := hide hd1
  subst hdv
  have hcv : (s[p].toNat : Int) = 40 := by rw [hc]; rfl
  obtain ⟨q, hq⟩ : ∃ x, x = p + 1 := ⟨_, rfl⟩
  have hwq : IntKind.i64.wrap ((p : Int) + 1) = (q : Int) := by rw [IntKind.wrap_i64]; omega
  have HV : Hid (AtV s (.ok r) = .agg #[.int .i64 (q : Int), .int .i64 0, .int .i64 0]) := hide (by rw [AtV_ok, ← hd1, place_of (by omega), hq])
  clear hq
  clear hm hd1 hc
  rcases hw5 with rfl | rfl | rfl | rfl | rfl
  all_goals
    subst hwv
    first
      | exact absurd rfl h4
      | skip
  all_goals
    go_enter Tryd.func17, Tryd.ntmps17
    go_wp2
    first
      | refine bodyPost_ret (results_at rfl _ _ w.heap.size _ _ _ rfl (Blk.new w _ _)) rfl ?_
      | refine bodyPost_ret (results_at rfl _ _ w.heap.size _ _ _ rfl (set3_blk (Blk.new w _ _) _ _ _)) rfl ?_
    rw [unhide HV]
    first
      | exact ⟨rfl, at_new⟩
      | exact ⟨rfl, at_new.trans (below_some (set3_grown _ w.heap.size _ _ _) (by simp))⟩

set_option maxRecDepth 20000 in
set_option maxHeartbeats 8000000 in
theorem rthing_36a (w : World) (s : ByteArray) (p d wh F : Nat) (r : List UInt8) (hm : s.data.toList.drop p = 36 :: r) (hs : s.size ≤ 100000) (hw5 : wh = 0 ∨ wh = 1 ∨ wh = 2 ∨ wh = 3 ∨ wh = 4) (hd : d ≤ 40) (hh : r.head? = some 123) {N : Nat} (hT : RT N) (hN : s.size ≤ p + 1 + N) (hF : 3 * (s.size - p) + 2 ≤ F) (wv dv : Int) (hwv : wv = (wh : Int)) (hdv : dv = (d : Int)) :
    Calls Tryd.prog 17 #[.string s, .int .i64 (p : Int), .int .i64 wv, .int .i64 dv] w fun e w' => e = .returned (AtV s (cls F (r.drop 1) (36 :: r) 125 (if quot wh then 3 else 2) d)) ∧ Below w.heap.size w w' := by
  obtain ⟨hlt, hd1⟩ := drop_step hm
  have hc := get_of hm hlt
  have hlt' : (p : Int) < (s.size : Int) := by omega
  have HM := hide hm
  have HD1 := hide hd1
  subst hdv
  have hcv : (s[p].toNat : Int) = 36 := by rw [hc]; rfl
  have hrl : r.length = s.size - (p + 1) := by rw [← hd1, List.length_drop, data_len]
  have hr0 : 0 < r.length := by rw [head_cons hh]; simp
  have hp1 : p + 1 < s.size := by omega
  obtain ⟨pn, hpn⟩ : ∃ x, x = p + 1 := ⟨_, rfl⟩
  have hwpn : IntKind.i64.wrap ((p : Int) + 1) = (pn : Int) := by rw [IntKind.wrap_i64]; omega
  have hpnl : (pn : Int) < (s.size : Int) := by omega
  have hpnl' : pn < s.size := by omega
  have hnx : (s[pn].toNat : Int) = 123 := by
    have h1 : s.data.toList.drop pn = 123 :: r.drop 1 := by rw [hpn, hd1]; exact head_cons hh
    rw [get_of h1 hpnl']
    rfl
  have HCL := hide (fun W => rclosed_any hT W s (p + 2) (p) d (if quot wh then 3 else 2) F 125 (by omega) (by omega) hs (by omega) (by split <;> decide) hd (by omega))
  obtain ⟨T, hTe⟩ : ∃ x, x = cls F (r.drop 1) (36 :: r) 125 (if quot wh then 3 else 2) d := ⟨_, rfl⟩
  have hcv2 : cls F (s.data.toList.drop (p + 2)) (s.data.toList.drop (p)) 125 (if quot wh then 3 else 2) d = T := by rw [hTe]; rw [hm, show p + 2 = p + 1 + 1 from rfl, ← List.drop_drop, hd1]
  rw [hcv2] at HCL
  rw [← hTe]
  obtain ⟨q1, hq1⟩ : ∃ x, x = p + 2 := ⟨_, rfl⟩
  have hwq1 : IntKind.i64.wrap ((p : Int) + 2) = (q1 : Int) := by rw [IntKind.wrap_i64]; omega
  rw [← hq1] at HCL
  clear hTe hcv2 hq1 hpn hh
  clear hm hd1 hc
  rcases hw5 with rfl | rfl | rfl | rfl | rfl
  all_goals
    subst hwv
  all_goals
    go_enter Tryd.func17, Tryd.ntmps17
    go_wp2_with fail
    refine (unhide HCL _ _ _ _ _ _ rfl rfl rfl rfl rfl).mono ?_
    rintro en w5 ⟨rfl, b5⟩
    have h5 := (Blk.new w 48 #[.int .i64 0, .int .i64 0, .int .i64 0]).below b5 (by simp)
    have B5 := hide (at_new.trans (b5.mono (by simp)))
    have H5 := hide h5
    rcases T with rr | ⟨ee, rr⟩
    all_goals
      have z0 := (unhide H5).frozen 0
      have z1 := (unhide H5).frozen 1
      have z2 := (unhide H5).frozen 2
      have y0 := (unhide H5).cell 0 (v := .int .i64 0) rfl
      have y1 := (unhide H5).cell 1 (v := .int .i64 0) rfl
      have y2 := (unhide H5).cell 2 (v := .int .i64 0) rfl
      first
        | rw [AtV_ok]
        | rw [AtV_err]
      obtain ⟨bb, hbb⟩ : ∃ y : Int, y = ((s.size - rr.length : Nat) : Int) := ⟨_, rfl⟩
      rw [← hbb]
      have HBB := hide hbb
      clear hbb
      go_wp2
      refine bodyPost_ret (results_at rfl _ _ w.heap.size _ _ _ rfl (set3_blk (unhide H5) _ _ _)) rfl ?_
      refine ⟨?_, (unhide B5).trans (below_some (set3_grown w5 w.heap.size _ _ _) (Nat.le_of_lt (unhide H5).lt))⟩
      first
        | rw [AtV_ok, ← unhide HBB]
        | rw [AtV_err, ← unhide HBB]

set_option maxRecDepth 20000 in
set_option maxHeartbeats 8000000 in
theorem rthing_36b (w : World) (s : ByteArray) (p d wh F : Nat) (r : List UInt8) (hm : s.data.toList.drop p = 36 :: r) (hs : s.size ≤ 100000) (hw5 : wh = 0 ∨ wh = 1 ∨ wh = 2 ∨ wh = 3 ∨ wh = 4) (hd : d ≤ 40) (hh : r.head? = some 40) {N : Nat} (hT : RT N) (hN : s.size ≤ p + 1 + N) (hF : 3 * (s.size - p) + 2 ≤ F) (wv dv : Int) (hwv : wv = (wh : Int)) (hdv : dv = (d : Int)) :
    Calls Tryd.prog 17 #[.string s, .int .i64 (p : Int), .int .i64 wv, .int .i64 dv] w fun e w' => e = .returned (AtV s (cls F (r.drop 1) r 41 4 d)) ∧ Below w.heap.size w w' := by
  obtain ⟨hlt, hd1⟩ := drop_step hm
  have hc := get_of hm hlt
  have hlt' : (p : Int) < (s.size : Int) := by omega
  have HM := hide hm
  have HD1 := hide hd1
  subst hdv
  have hcv : (s[p].toNat : Int) = 36 := by rw [hc]; rfl
  have hrl : r.length = s.size - (p + 1) := by rw [← hd1, List.length_drop, data_len]
  have hr0 : 0 < r.length := by rw [head_cons hh]; simp
  have hp1 : p + 1 < s.size := by omega
  obtain ⟨pn, hpn⟩ : ∃ x, x = p + 1 := ⟨_, rfl⟩
  have hwpn : IntKind.i64.wrap ((p : Int) + 1) = (pn : Int) := by rw [IntKind.wrap_i64]; omega
  have hpnl : (pn : Int) < (s.size : Int) := by omega
  have hpnl' : pn < s.size := by omega
  have hnx : (s[pn].toNat : Int) = 40 := by
    have h1 : s.data.toList.drop pn = 40 :: r.drop 1 := by rw [hpn, hd1]; exact head_cons hh
    rw [get_of h1 hpnl']
    rfl
  have HCL := hide (fun W => rclosed_any hT W s (p + 2) (p + 1) d 4 F 41 (by omega) (by omega) hs (by omega) (by decide) hd (by omega))
  obtain ⟨T, hTe⟩ : ∃ x, x = cls F (r.drop 1) r 41 4 d := ⟨_, rfl⟩
  have hcv2 : cls F (s.data.toList.drop (p + 2)) (s.data.toList.drop (p + 1)) 41 4 d = T := by rw [hTe]; rw [show p + 2 = p + 1 + 1 from rfl, ← List.drop_drop, hd1]
  rw [hcv2] at HCL
  rw [← hTe]
  obtain ⟨q1, hq1⟩ : ∃ x, x = p + 2 := ⟨_, rfl⟩
  have hwq1 : IntKind.i64.wrap ((p : Int) + 2) = (q1 : Int) := by rw [IntKind.wrap_i64]; omega
  rw [← hq1] at HCL
  rw [← hpn] at HCL
  clear hTe hcv2 hq1 hpn hh
  clear hm hd1 hc
  rcases hw5 with rfl | rfl | rfl | rfl | rfl
  all_goals
    subst hwv
  all_goals
    go_enter Tryd.func17, Tryd.ntmps17
    go_wp2_with fail
    refine (unhide HCL _ _ _ _ _ _ rfl rfl rfl rfl rfl).mono ?_
    rintro en w5 ⟨rfl, b5⟩
    have h5 := (Blk.new w 48 #[.int .i64 0, .int .i64 0, .int .i64 0]).below b5 (by simp)
    have B5 := hide (at_new.trans (b5.mono (by simp)))
    have H5 := hide h5
    rcases T with rr | ⟨ee, rr⟩
    all_goals
      have z0 := (unhide H5).frozen 0
      have z1 := (unhide H5).frozen 1
      have z2 := (unhide H5).frozen 2
      have y0 := (unhide H5).cell 0 (v := .int .i64 0) rfl
      have y1 := (unhide H5).cell 1 (v := .int .i64 0) rfl
      have y2 := (unhide H5).cell 2 (v := .int .i64 0) rfl
      first
        | rw [AtV_ok]
        | rw [AtV_err]
      obtain ⟨bb, hbb⟩ : ∃ y : Int, y = ((s.size - rr.length : Nat) : Int) := ⟨_, rfl⟩
      rw [← hbb]
      have HBB := hide hbb
      clear hbb
      go_wp2
      refine bodyPost_ret (results_at rfl _ _ w.heap.size _ _ _ rfl (set3_blk (unhide H5) _ _ _)) rfl ?_
      refine ⟨?_, (unhide B5).trans (below_some (set3_grown w5 w.heap.size _ _ _) (Nat.le_of_lt (unhide H5).lt))⟩
      first
        | rw [AtV_ok, ← unhide HBB]
        | rw [AtV_err, ← unhide HBB]

set_option maxRecDepth 20000 in
set_option maxHeartbeats 8000000 in
theorem rthing_36end (w : World) (s : ByteArray) (p d wh : Nat) (r : List UInt8) (hm : s.data.toList.drop p = 36 :: r) (hs : s.size ≤ 100000) (hw5 : wh = 0 ∨ wh = 1 ∨ wh = 2 ∨ wh = 3 ∨ wh = 4) (hh : r = []) (wv dv : Int) (hwv : wv = (wh : Int)) (hdv : dv = (d : Int)) :
    Calls Tryd.prog 17 #[.string s, .int .i64 (p : Int), .int .i64 wv, .int .i64 dv] w fun e w' => e = .returned (AtV s (.ok r)) ∧ Below w.heap.size w w' := by
  obtain ⟨hlt, hd1⟩ := drop_step hm
  have hc := get_of hm hlt
  have hlt' : (p : Int) < (s.size : Int) := by omega
  have HM := hide hm
  have HD1 := hide hd1
  subst hdv
  have hcv : (s[p].toNat : Int) = 36 := by rw [hc]; rfl
  obtain ⟨q, hq⟩ : ∃ x, x = p + 1 := ⟨_, rfl⟩
  have hwq : IntKind.i64.wrap ((p : Int) + 1) = (q : Int) := by rw [IntKind.wrap_i64]; omega
  have HV : Hid (AtV s (.ok r) = .agg #[.int .i64 (q : Int), .int .i64 0, .int .i64 0]) := hide (by rw [AtV_ok, ← hd1, place_of (by omega), hq])
  clear hq
  have hrl : r.length = s.size - (p + 1) := by rw [← hd1, List.length_drop, data_len]
  have hl0 : ¬ (q : Int) < (s.size : Int) := by
    have : r.length = 0 := by rw [hh]; rfl
    have hq1 := hwq
    rw [IntKind.wrap_i64] at hq1
    omega
  clear hh hrl
  clear hm hd1 hc
  rcases hw5 with rfl | rfl | rfl | rfl | rfl
  all_goals
    subst hwv
  all_goals
    go_enter Tryd.func17, Tryd.ntmps17
    go_wp2
    first
      | refine bodyPost_ret (results_at rfl _ _ w.heap.size _ _ _ rfl (Blk.new w _ _)) rfl ?_
      | refine bodyPost_ret (results_at rfl _ _ w.heap.size _ _ _ rfl (set3_blk (Blk.new w _ _) _ _ _)) rfl ?_
    rw [unhide HV]
    first
      | exact ⟨rfl, at_new⟩
      | exact ⟨rfl, at_new.trans (below_some (set3_grown _ w.heap.size _ _ _) (by simp))⟩

set_option maxRecDepth 20000 in
set_option maxHeartbeats 8000000 in
theorem rthing_36c (w : World) (s : ByteArray) (p d wh : Nat) (r : List UInt8) (hm : s.data.toList.drop p = 36 :: r) (hs : s.size ≤ 100000) (hw5 : wh = 0 ∨ wh = 1 ∨ wh = 2 ∨ wh = 3 ∨ wh = 4) (x : UInt8) (r1 : List UInt8) (hx : r = x :: r1) (hh1 : x ≠ 123) (hh2 : x ≠ 40) (wv dv : Int) (hwv : wv = (wh : Int)) (hdv : dv = (d : Int)) :
    Calls Tryd.prog 17 #[.string s, .int .i64 (p : Int), .int .i64 wv, .int .i64 dv] w fun e w' => e = .returned (AtV s (.ok r)) ∧ Below w.heap.size w w' := by
  obtain ⟨hlt, hd1⟩ := drop_step hm
  have hc := get_of hm hlt
  have hlt' : (p : Int) < (s.size : Int) := by omega
  have HM := hide hm
  have HD1 := hide hd1
  subst hdv
  have hcv : (s[p].toNat : Int) = 36 := by rw [hc]; rfl
  obtain ⟨q, hq⟩ : ∃ x, x = p + 1 := ⟨_, rfl⟩
  have hwq : IntKind.i64.wrap ((p : Int) + 1) = (q : Int) := by rw [IntKind.wrap_i64]; omega
  have HV : Hid (AtV s (.ok r) = .agg #[.int .i64 (q : Int), .int .i64 0, .int .i64 0]) := hide (by rw [AtV_ok, ← hd1, place_of (by omega), hq])
  have hdq : s.data.toList.drop q = x :: r1 := by rw [hq, hd1, hx]
  have hql := (drop_step hdq).1
  have hql' : (q : Int) < (s.size : Int) := by omega
  have hnx1 : ¬ (s[q].toNat : Int) = 123 := by
    rw [get_of hdq hql]
    intro e
    exact hh1 (UInt8.toNat_inj.1 (show x.toNat = 123 by omega))
  have hnx2 : ¬ (s[q].toNat : Int) = 40 := by
    rw [get_of hdq hql]
    intro e
    exact hh2 (UInt8.toNat_inj.1 (show x.toNat = 40 by omega))
  clear hq hdq hx hh1 hh2
  clear hm hd1 hc
  rcases hw5 with rfl | rfl | rfl | rfl | rfl
  all_goals
    subst hwv
  all_goals
    go_enter Tryd.func17, Tryd.ntmps17
    go_wp2
    first
      | refine bodyPost_ret (results_at rfl _ _ w.heap.size _ _ _ rfl (Blk.new w _ _)) rfl ?_
      | refine bodyPost_ret (results_at rfl _ _ w.heap.size _ _ _ rfl (set3_blk (Blk.new w _ _) _ _ _)) rfl ?_
    rw [unhide HV]
    first
      | exact ⟨rfl, at_new⟩
      | exact ⟨rfl, at_new.trans (below_some (set3_grown _ w.heap.size _ _ _) (by simp))⟩

set_option maxRecDepth 20000 in
set_option maxHeartbeats 8000000 in
theorem rthing_96 (w : World) (s : ByteArray) (p d wh : Nat) (r : List UInt8) (hm : s.data.toList.drop p = 96 :: r) (hw5 : wh = 0 ∨ wh = 1 ∨ wh = 2 ∨ wh = 3 ∨ wh = 4) (wv dv : Int) (hwv : wv = (wh : Int)) (hdv : dv = (d : Int)) :
    Calls Tryd.prog 17 #[.string s, .int .i64 (p : Int), .int .i64 wv, .int .i64 dv] w fun e w' => e = .returned (AtV s (.err 10 (96 :: r))) ∧ Below w.heap.size w w' := by
  obtain ⟨hlt, hd1⟩ := drop_step hm
  have hc := get_of hm hlt
  have hlt' : (p : Int) < (s.size : Int) := by omega
  have HM := hide hm
  have HD1 := hide hd1
  subst hdv
  have hcv : (s[p].toNat : Int) = 96 := by rw [hc]; rfl
  have HV : Hid (AtV s (.err 10 (96 :: r)) = .agg #[.int .i64 0, .int .i64 (p : Int), .int .i64 10]) := hide (by rw [AtV_err, ← hm, place_of (by omega)])
  clear hm hd1 hc
  rcases hw5 with rfl | rfl | rfl | rfl | rfl
  all_goals
    subst hwv
  all_goals
    go_enter Tryd.func17, Tryd.ntmps17
    go_wp2
    first
      | refine bodyPost_ret (results_at rfl _ _ w.heap.size _ _ _ rfl (Blk.new w _ _)) rfl ?_
      | refine bodyPost_ret (results_at rfl _ _ w.heap.size _ _ _ rfl (set3_blk (Blk.new w _ _) _ _ _)) rfl ?_
    rw [unhide HV]
    first
      | exact ⟨rfl, at_new⟩
      | exact ⟨rfl, at_new.trans (below_some (set3_grown _ w.heap.size _ _ _) (by simp))⟩

set_option maxRecDepth 20000 in
set_option maxHeartbeats 8000000 in
theorem rthing_else (w : World) (s : ByteArray) (p d wh : Nat) (c : UInt8) (r : List UInt8) (hm : s.data.toList.drop p = c :: r) (hs : s.size ≤ 100000) (hw5 : wh = 0 ∨ wh = 1 ∨ wh = 2 ∨ wh = 3 ∨ wh = 4) (n1 : c ≠ 92) (n2 : c ≠ 34) (n3 : c ≠ 39) (n4 : c ≠ 36) (n5 : c ≠ 40) (n6 : c ≠ 96) (wv dv : Int) (hwv : wv = (wh : Int)) (hdv : dv = (d : Int)) :
    Calls Tryd.prog 17 #[.string s, .int .i64 (p : Int), .int .i64 wv, .int .i64 dv] w fun e w' => e = .returned (AtV s (.ok r)) ∧ Below w.heap.size w w' := by
  obtain ⟨hlt, hd1⟩ := drop_step hm
  have hc := get_of hm hlt
  have hlt' : (p : Int) < (s.size : Int) := by omega
  have HM := hide hm
  have HD1 := hide hd1
  subst hdv
  have nb : ∀ k : UInt8, c ≠ k → ¬ (c.toNat : Int) = (k.toNat : Int) := fun k h e => h (UInt8.toNat_inj.1 (by omega))
  have nb92 := nb 92 n1
  have nb34 := nb 34 n2
  have nb39 := nb 39 n3
  have nb36 := nb 36 n4
  have nb40 := nb 40 n5
  have nb96 := nb 96 n6
  have f92 : ¬ (s[p].toNat : Int) = 92 := by rw [hc]; exact nb92
  have f39 : ¬ (s[p].toNat : Int) = 39 := by rw [hc]; exact nb39
  have f34 : ¬ (s[p].toNat : Int) = 34 := by rw [hc]; exact nb34
  have f40 : ¬ (s[p].toNat : Int) = 40 := by rw [hc]; exact nb40
  have f36 : ¬ (s[p].toNat : Int) = 36 := by rw [hc]; exact nb36
  have f96 : ¬ (s[p].toNat : Int) = 96 := by rw [hc]; exact nb96
  obtain ⟨q, hq⟩ : ∃ x, x = p + 1 := ⟨_, rfl⟩
  have hwq : IntKind.i64.wrap ((p : Int) + 1) = (q : Int) := by rw [IntKind.wrap_i64]; omega
  have HV : Hid (AtV s (.ok r) = .agg #[.int .i64 (q : Int), .int .i64 0, .int .i64 0]) := hide (by rw [AtV_ok, ← hd1, place_of (by omega), hq])
  clear hq
  clear hm hd1 hc nb nb92 nb34 nb39 nb36 nb40 nb96 n1 n2 n3 n4 n5 n6
  rcases hw5 with rfl | rfl | rfl | rfl | rfl
  all_goals
    subst hwv
  all_goals
    go_enter Tryd.func17, Tryd.ntmps17
    go_wp2
    first
      | refine bodyPost_ret (results_at rfl _ _ w.heap.size _ _ _ rfl (Blk.new w _ _)) rfl ?_
      | refine bodyPost_ret (results_at rfl _ _ w.heap.size _ _ _ rfl (set3_blk (Blk.new w _ _) _ _ _)) rfl ?_
    rw [unhide HV]
    first
      | exact ⟨rfl, at_new⟩
      | exact ⟨rfl, at_new.trans (below_some (set3_grown _ w.heap.size _ _ _) (by simp))⟩

set_option maxRecDepth 20000 in
set_option maxHeartbeats 8000000 in
theorem rthing_39in (w : World) (s : ByteArray) (p d wh : Nat) (r : List UInt8) (hm : s.data.toList.drop p = 39 :: r) (hs : s.size ≤ 100000) (hw5 : wh = 0 ∨ wh = 1 ∨ wh = 2 ∨ wh = 3 ∨ wh = 4) (hqt : quot wh = true) (wv dv : Int) (hwv : wv = (wh : Int)) (hdv : dv = (d : Int)) :
    Calls Tryd.prog 17 #[.string s, .int .i64 (p : Int), .int .i64 wv, .int .i64 dv] w fun e w' => e = .returned (AtV s (.ok r)) ∧ Below w.heap.size w w' := by
  obtain ⟨hlt, hd1⟩ := drop_step hm
  have hc := get_of hm hlt
  have hlt' : (p : Int) < (s.size : Int) := by omega
  have HM := hide hm
  have HD1 := hide hd1
  subst hdv
  have hcv : (s[p].toNat : Int) = 39 := by rw [hc]; rfl
  obtain ⟨q, hq⟩ : ∃ x, x = p + 1 := ⟨_, rfl⟩
  have hwq : IntKind.i64.wrap ((p : Int) + 1) = (q : Int) := by rw [IntKind.wrap_i64]; omega
  have HV : Hid (AtV s (.ok r) = .agg #[.int .i64 (q : Int), .int .i64 0, .int .i64 0]) := hide (by rw [AtV_ok, ← hd1, place_of (by omega), hq])
  clear hq
  clear hm hd1 hc
  rcases hw5 with rfl | rfl | rfl | rfl | rfl
  all_goals
    subst hwv
    first
      | exact absurd hqt (by decide)
      | skip
  all_goals
    go_enter Tryd.func17, Tryd.ntmps17
    go_wp2
    first
      | refine bodyPost_ret (results_at rfl _ _ w.heap.size _ _ _ rfl (Blk.new w _ _)) rfl ?_
      | refine bodyPost_ret (results_at rfl _ _ w.heap.size _ _ _ rfl (set3_blk (Blk.new w _ _) _ _ _)) rfl ?_
    rw [unhide HV]
    first
      | exact ⟨rfl, at_new⟩
      | exact ⟨rfl, at_new.trans (below_some (set3_grown _ w.heap.size _ _ _) (by simp))⟩

set_option maxRecDepth 20000 in
set_option maxHeartbeats 8000000 in
theorem rthing_39 (w : World) (s : ByteArray) (p d wh : Nat) (r : List UInt8) (hm : s.data.toList.drop p = 39 :: r) (hs : s.size ≤ 100000) (hw5 : wh = 0 ∨ wh = 1 ∨ wh = 2 ∨ wh = 3 ∨ wh = 4) (hqt : quot wh = false) (wv dv : Int) (hwv : wv = (wh : Int)) (hdv : dv = (d : Int)) :
    Calls Tryd.prog 17 #[.string s, .int .i64 (p : Int), .int .i64 wv, .int .i64 dv] w fun e w' => e = .returned (AtV s (match r.dropWhile (fun x => x != 39) with
      | [] => .err 11 (39 :: r)
      | _ :: r' => .ok r')) ∧ Below w.heap.size w w' := by
  obtain ⟨hlt, hd1⟩ := drop_step hm
  have hc := get_of hm hlt
  have hlt' : (p : Int) < (s.size : Int) := by omega
  have HM := hide hm
  have HD1 := hide hd1
  subst hdv
  have hcv : (s[p].toNat : Int) = 39 := by rw [hc]; rfl
  obtain ⟨D, hD⟩ : ∃ x, x = r.dropWhile (fun x => x != 39) := ⟨_, rfl⟩
  obtain ⟨T, hTe⟩ : ∃ x, x = (match D with
      | [] => Rs.err 11 (39 :: r)
      | _ :: r' => .ok r') := ⟨_, rfl⟩
  rw [← hD, ← hTe]
  obtain ⟨q0, hq0⟩ : ∃ x, x = p + 1 := ⟨_, rfl⟩
  have hwq0 : IntKind.i64.wrap ((p : Int) + 1) = (q0 : Int) := by rw [IntKind.wrap_i64]; omega
  have hq0s : q0 ≤ s.size := by omega
  have HI : Hid ((s.data.toList.drop q0).dropWhile (fun x => x != 39) = D) := hide (by rw [hq0, hd1, hD])
  have HTE := hide hTe
  clear hq0 hD hTe
  clear hm hd1 hc
  rcases hw5 with rfl | rfl | rfl | rfl | rfl
  all_goals
    subst hwv
    first
      | exact absurd hqt (by decide)
      | skip
  all_goals
    go_enter Tryd.func17, Tryd.ntmps17
    go_wp2_with fail
    go_loop [11] (fun x => ∃ k : Nat, x = .int .i64 (k : Int) ∧ k ≤ s.size ∧ Hid ((s.data.toList.drop k).dropWhile (fun x => x != 39) = D)) (fun x => s.size - (intOf x).toNat)
    case atStart => exact ⟨q0, rfl, hq0s, HI⟩
    case round =>
      clear HI
      obtain ⟨k, rfl, hks, HI⟩ := hrel
      obtain ⟨k1, hk1⟩ : ∃ x, x = k + 1 := ⟨_, rfl⟩
      by_cases hk : k < s.size
      · have hk' : (k : Int) < (s.size : Int) := by omega
        have hwk : IntKind.i64.wrap ((k : Int) + 1) = (k1 : Int) := by rw [IntKind.wrap_i64]; omega
        have hI := unhide HI
        rw [drop_at hk, List.dropWhile_cons, ← hk1] at hI
        have hk1s : k1 ≤ s.size ∧ k < k1 := by omega
        by_cases hb : s[k] = 39
        · have hbv : (s[k].toNat : Int) = 39 := by rw [hb]; rfl
          rw [if_neg (by rw [hb]; decide)] at hI
          have HV : Hid (AtV s T = .agg #[.int .i64 (k1 : Int), .int .i64 0, .int .i64 0]) := hide (by
            rw [unhide HTE, ← hI]
            show AtV s (.ok (s.data.toList.drop k1)) = _
            rw [AtV_ok, place_of hk1s.1])
          clear hI hb hk1
          go_wp2
          first
            | refine bodyPost_ret (results_at rfl _ _ w.heap.size _ _ _ rfl (Blk.new w _ _)) rfl ?_
            | refine bodyPost_ret (results_at rfl _ _ w.heap.size _ _ _ rfl (set3_blk (Blk.new w _ _) _ _ _)) rfl ?_
          rw [unhide HV]
          first
            | exact ⟨rfl, at_new⟩
            | exact ⟨rfl, at_new.trans (below_some (set3_grown _ w.heap.size _ _ _) (by simp))⟩
        · have hbv : ¬ (s[k].toNat : Int) = 39 := fun e => hb (UInt8.toNat_inj.1 (show s[k].toNat = 39 by omega))
          rw [if_pos (by simpa using hb)] at hI
          have HI2 := hide hI
          clear hI hb hk1
          go_wp2
          go_round
          case rel => exact ⟨k1, rfl, hk1s.1, HI2⟩
          case measure => simp [intOf]; omega
      · have hk' : ¬ (k : Int) < (s.size : Int) := by omega
        have HV : Hid (AtV s T = .agg #[.int .i64 0, .int .i64 (p : Int), .int .i64 11]) := hide (by
          have hI := unhide HI
          rw [drop_nil (show s.size ≤ k by omega)] at hI
          rw [unhide HTE, ← hI]
          show AtV s (.err 11 (39 :: r)) = _
          rw [AtV_err, ← unhide HM, place_of (by omega)])
        clear hk1
        go_wp2
        first
          | refine bodyPost_ret (results_at rfl _ _ w.heap.size _ _ _ rfl (Blk.new w _ _)) rfl ?_
          | refine bodyPost_ret (results_at rfl _ _ w.heap.size _ _ _ rfl (set3_blk (Blk.new w _ _) _ _ _)) rfl ?_
        rw [unhide HV]
        first
          | exact ⟨rfl, at_new⟩
          | exact ⟨rfl, at_new.trans (below_some (set3_grown _ w.heap.size _ _ _) (by simp))⟩

theorem rthing_step {M : Nat} (hT : ∀ N, N < M → RT N) : RT M := by
  intro w s p d wh F hp hs hN hwh hd hF wv dv hwv hdv
  have hw5 : wh = 0 ∨ wh = 1 ∨ wh = 2 ∨ wh = 3 ∨ wh = 4 := by omega
  obtain ⟨F, rfl⟩ : ∃ G, F = G + 1 := ⟨F - 1, by omega⟩
  have hm := drop_at hp
  rw [hm, thg_succ]
  obtain ⟨c, hc⟩ : ∃ x, x = s[p] := ⟨_, rfl⟩
  obtain ⟨r, hr⟩ : ∃ x, x = s.data.toList.drop (p + 1) := ⟨_, rfl⟩
  rw [← hc, ← hr] at hm ⊢
  have hMT := hT (M - 1) (by omega)
  by_cases e1 : c = 92
  · subst e1
    rw [if_pos rfl]
    exact rthing_92 w s p d wh r hm hs hw5 wv dv hwv hdv
  rw [if_neg e1]
  by_cases e2 : c = 34
  · subst e2
    rw [if_pos rfl]
    by_cases h1 : wh = 1
    · rw [if_pos h1]
      exact rthing_34in w s p d wh r hm hs hw5 h1 wv dv hwv hdv
    · rw [if_neg h1]
      exact rthing_34 w s p d wh F r hm hs hw5 hd h1 hMT (by omega) (by omega) wv dv hwv hdv
  rw [if_neg e2]
  by_cases e3 : c = 39
  · subst e3
    rw [if_pos rfl]
    rcases Bool.eq_false_or_eq_true (quot wh) with h1 | h1
    · rw [h1, if_pos rfl]
      exact rthing_39in w s p d wh r hm hs hw5 h1 wv dv hwv hdv
    · rw [h1, if_neg (by decide)]
      exact rthing_39 w s p d wh r hm hs hw5 h1 wv dv hwv hdv
  rw [if_neg e3]
  by_cases e4 : c = 36
  · subst e4
    rw [if_pos rfl]
    by_cases h1 : r.head? = some 123
    · rw [if_pos h1]
      exact rthing_36a w s p d wh F r hm hs hw5 hd h1 hMT (by omega) (by omega) wv dv hwv hdv
    · rw [if_neg h1]
      by_cases h2 : r.head? = some 40
      · rw [if_pos h2]
        exact rthing_36b w s p d wh F r hm hs hw5 hd h2 hMT (by omega) (by omega) wv dv hwv hdv
      · rw [if_neg h2]
        rcases hr1 : r with _ | ⟨x, r1⟩
        · rw [hr1] at hm
          exact rthing_36end w s p d wh [] hm hs hw5 rfl wv dv hwv hdv
        · rw [hr1] at hm h1 h2
          exact rthing_36c w s p d wh (x :: r1) hm hs hw5 x r1 rfl (fun e => h1 (by rw [e]; rfl)) (fun e => h2 (by rw [e]; rfl)) wv dv hwv hdv
  rw [if_neg e4]
  by_cases e5 : c = 40
  · subst e5
    rw [if_pos rfl]
    by_cases h1 : wh = 4
    · rw [if_pos h1]
      exact rthing_40 w s p d wh F r hm hs hw5 hd h1 hMT (by omega) (by omega) wv dv hwv hdv
    · rw [if_neg h1]
      exact rthing_40out w s p d wh r hm hs hw5 h1 wv dv hwv hdv
  rw [if_neg e5]
  by_cases e6 : c = 96
  · subst e6
    rw [if_pos rfl]
    exact rthing_96 w s p d wh r hm hw5 wv dv hwv hdv
  rw [if_neg e6]
  exact rthing_else w s p d wh c r hm hs hw5 e1 e2 e3 e4 e5 e6 wv dv hwv hdv
theorem rthing_all (M : Nat) : RT M := by
  induction M using Nat.strongRecOn with
  | ind M ih => exact rthing_step ih

end Go.Proofs.YtlmpdfeidjnmnaaDoor

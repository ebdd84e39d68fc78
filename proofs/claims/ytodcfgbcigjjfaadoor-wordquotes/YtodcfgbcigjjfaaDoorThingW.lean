/-
  The reader's 'thing', by its first bytes.
-/
import Derived.Test.YtodcfgbcigjjfaaDoorThings
namespace Go.Proofs.YtodcfgbcigjjfaaDoor
open Go.RowKit

theorem sees_at {w : World} {b : Nat} {t : TypeId} {tl : List Value} {s : ByteArray} {p d : Nat} {f bl : Int} {c : UInt8} {r : List UInt8} (h : Rdr w b t tl s p d f bl) (hm : s.data.toList.drop p = c :: r) (x : UInt8) (v : Bool) (hv : (c == x) = v) (k : Nat) :
    Calls Tryd.prog 93 #[.pointer (some ⟨b, 0, none⟩), .string ⟨#[x]⟩] (w.drewN k) fun e w' => e = .returned (.bool v) ∧ ∃ j, w' = w.drewN j := by
  refine (sees_any ⟨#[x]⟩ (h.drewN k)).mono ?_
  rintro e w' ⟨rfl, j, rfl⟩
  rw [hm, show (⟨#[x]⟩ : ByteArray).data.toList = [x] from rfl, hasP_one, hv]
  exact ⟨rfl, k + j, by rw [World.drewN_drewN]⟩
theorem sees_two {w : World} {b : Nat} {t : TypeId} {tl : List Value} {s : ByteArray} {p d : Nat} {f bl : Int} {c : UInt8} {r : List UInt8} (h : Rdr w b t tl s p d f bl) (hm : s.data.toList.drop p = c :: r) (x y : UInt8) (v : Bool) (hv : ((c == x) && (r.head? == some y)) = v) (k : Nat) :
    Calls Tryd.prog 93 #[.pointer (some ⟨b, 0, none⟩), .string ⟨#[x, y]⟩] (w.drewN k) fun e w' => e = .returned (.bool v) ∧ ∃ j, w' = w.drewN j := by
  refine (sees_any ⟨#[x, y]⟩ (h.drewN k)).mono ?_
  rintro e w' ⟨rfl, j, rfl⟩
  rw [hm, show (⟨#[x, y]⟩ : ByteArray).data.toList = [x, y] from rfl, hasP_two, hv]
  exact ⟨rfl, k + j, by rw [World.drewN_drewN]⟩

set_option maxRecDepth 20000 in
set_option maxHeartbeats 4000000 in
theorem thing_92 (w : World) (b : Nat) (t : TypeId) (tl : List Value) (s : ByteArray) (p d : Nat) (wh : Nat) (r : List UInt8) (h : Rdr w b t tl s p d 0 0) (hm : s.data.toList.drop p = 92 :: r) :
    Calls Tryd.prog 82 #[.pointer (some ⟨b, 0, none⟩), .int .i64 (wh : Int)] w fun en w' => ThEnd w b t tl s d (.ok (r.drop 1)) en w' := by
  obtain ⟨hlt, hd1⟩ := drop_step hm
  have hlen := h.len
  have hdle := h.dle
  have H := hide h
  have HM := hide hm
  have HD1 := hide hd1
  have HS0 := hide (sees_at h hm 92 true (by decide))
  have c1 := h.c1
  have c2 := h.c2
  have z2 := h.blk.frozen 2
  clear h hm hd1
  go_enter Tryd.func82, Tryd.ntmps82
  go_wp2_with fail
  refine (unhide HS0 0).mono ?_
  rintro en w1 ⟨rfl, k1, hw1⟩
  subst hw1
  obtain ⟨q2, hq2⟩ : ∃ x, x = p + 2 := ⟨_, rfl⟩
  have hwq : IntKind.i64.wrap ((p : Int) + 2) = (q2 : Int) := by rw [IntKind.wrap_i64]; omega
  obtain ⟨q, hq⟩ : ∃ x, x = min q2 s.size := ⟨_, rfl⟩
  have hmn : min (q2 : Int) (s.size : Int) = (q : Int) := by omega
  have hqs : q ≤ s.size := by omega
  have HQ : Hid (s.data.toList.drop q = r.drop 1) := hide (by
    by_cases hb : p + 2 ≤ s.size
    · rw [show q = p + 1 + 1 by omega, ← List.drop_drop, unhide HD1]
    · have : r.length = 0 := by rw [← unhide HD1, List.length_drop, data_len]; omega
      rw [List.eq_nil_of_length_eq_zero this, drop_nil (show s.size ≤ q by omega)]
      rfl)
  clear hq hq2
  go_wp2_with fail
  go_region
  all_goals
    go_wp2
    refine bodyPost_end (res0 rfl _ _) rfl ?_
    exact ⟨rfl, (grown_but (grown_drewN w _) _).trans ((grown_but ⟨rfl, rfl, rfl, Nat.le_refl _, fun _ _ _ => rfl⟩ _).trans (grown_setCell _ ⟨b, 2, none⟩ _)), q, unhide HQ, (((unhide H).drewN _).kept ⟨rfl, rfl, rfl, Nat.le_refl _, fun _ _ _ => rfl⟩).to _ (by omega)⟩

set_option maxRecDepth 20000 in
set_option maxHeartbeats 4000000 in
theorem thing_34in (w : World) (b : Nat) (t : TypeId) (tl : List Value) (s : ByteArray) (p d : Nat) (wh : Nat) (r : List UInt8) (h : Rdr w b t tl s p d 0 0) (hm : s.data.toList.drop p = 34 :: r) (h1 : wh = 1) :
    Calls Tryd.prog 82 #[.pointer (some ⟨b, 0, none⟩), .int .i64 (wh : Int)] w fun en w' => ThEnd w b t tl s d (.ok r) en w' := by
  obtain ⟨hlt, hd1⟩ := drop_step hm
  have hlen := h.len
  have hdle := h.dle
  have H := hide h
  have HM := hide hm
  have HD1 := hide hd1
  have HS0 := hide (sees_at h hm 92 false (by decide))
  have HS1 := hide (sees_at h hm 34 true (by decide))
  have HS2 := hide (sees_at h hm 39 false (by decide))
  have HS3 := hide (sees_two h hm 36 123 false (by simp))
  have HS4 := hide (sees_two h hm 36 40 false (by simp))
  have HS5 := hide (sees_at h hm 40 false (by decide))
  have HS6 := hide (sees_at h hm 96 false (by decide))
  have h1b : ((wh : Int) == 1) = true := by rw [beq_iff_eq]; omega
  clear h1
  have c1 := h.c1
  have c2 := h.c2
  have z2 := h.blk.frozen 2
  clear h hm hd1
  go_enter Tryd.func82, Tryd.ntmps82
  go_wp2_with fail
  refine (unhide HS0 0).mono ?_
  rintro en w1 ⟨rfl, k1, hw1⟩
  subst hw1
  go_wp2_with fail
  refine (unhide HS1 k1).mono ?_
  rintro en w2 ⟨rfl, k2, hw2⟩
  subst hw2
  go_wp2_with fail
  refine (unhide HS2 k2).mono ?_
  rintro en w3 ⟨rfl, k3, hw3⟩
  subst hw3
  go_wp2_with fail
  refine (unhide HS3 k3).mono ?_
  rintro en w4 ⟨rfl, k4, hw4⟩
  subst hw4
  go_wp2_with fail
  refine (unhide HS4 k4).mono ?_
  rintro en w5 ⟨rfl, k5, hw5⟩
  subst hw5
  go_wp2_with fail
  refine (unhide HS5 k5).mono ?_
  rintro en w6 ⟨rfl, k6, hw6⟩
  subst hw6
  go_wp2_with fail
  refine (unhide HS6 k6).mono ?_
  rintro en w7 ⟨rfl, k7, hw7⟩
  subst hw7
  obtain ⟨q, hq⟩ : ∃ x, x = p + 1 := ⟨_, rfl⟩
  have hwq : IntKind.i64.wrap ((p : Int) + 1) = (q : Int) := by rw [IntKind.wrap_i64]; omega
  have hqs : q ≤ s.size := by omega
  have HQ := hide hq
  clear hq
  go_wp2
  refine bodyPost_end (res0 rfl _ _) rfl ?_
  exact ⟨rfl, (grown_but (grown_drewN w _) _).trans (grown_setCell _ ⟨b, 2, none⟩ _), q, by rw [unhide HQ]; exact unhide HD1, ((unhide H).drewN _).to q hqs⟩

set_option maxRecDepth 20000 in
set_option maxHeartbeats 4000000 in
theorem thing_34 (w : World) (b : Nat) (t : TypeId) (tl : List Value) (s : ByteArray) (p d : Nat) (wh F : Nat) (r : List UInt8) (h : Rdr w b t tl s p d 0 0) (hm : s.data.toList.drop p = 34 :: r) (h1 : wh ≠ 1) {N : Nat} (hT : MT N) (hN : s.size ≤ p + 1 + N) (hF : 3 * (s.size - p) + 2 ≤ F) :
    Calls Tryd.prog 82 #[.pointer (some ⟨b, 0, none⟩), .int .i64 (wh : Int)] w fun en w' => ThEnd w b t tl s d (cls F r (34 :: r) 34 1 d) en w' := by
  obtain ⟨hlt, hd1⟩ := drop_step hm
  have hlen := h.len
  have hdle := h.dle
  have H := hide h
  have HM := hide hm
  have HD1 := hide hd1
  have HS0 := hide (sees_at h hm 92 false (by decide))
  have HS1 := hide (sees_at h hm 34 true (by decide))
  have h1b : ¬ (wh : Int) = 1 := by omega
  clear h1
  have c1 := h.c1
  have c2 := h.c2
  have z2 := h.blk.frozen 2
  clear h hm hd1
  go_enter Tryd.func82, Tryd.ntmps82
  go_wp2_with fail
  refine (unhide HS0 0).mono ?_
  rintro en w1 ⟨rfl, k1, hw1⟩
  subst hw1
  go_wp2_with fail
  refine (unhide HS1 k1).mono ?_
  rintro en w2 ⟨rfl, k2, hw2⟩
  subst hw2
  go_wp2_with fail
  refine (around_any hT (w.drewN k2) b t tl s p d 1 1 F ⟨#[34]⟩ 34 ((unhide H).drewN _) rfl (by omega) (by omega) (by decide) (by omega) _ rfl _ rfl).mono ?_
  intro en w9 h9
  obtain ⟨he, g9, h9⟩ := h9
  subst he
  have G9 := hide g9
  have H9 := hide h9
  clear g9 h9
  go_wp2
  refine bodyPost_end (res0 rfl _ _) rfl ?_
  refine ⟨rfl, (grown_but (grown_drewN w _) _).trans (unhide G9), ?_⟩
  have h9 := unhide H9
  rw [unhide HM] at h9
  rw [unhide HD1] at h9
  exact h9

set_option maxRecDepth 20000 in
set_option maxHeartbeats 4000000 in
theorem thing_39in (w : World) (b : Nat) (t : TypeId) (tl : List Value) (s : ByteArray) (p d : Nat) (wh : Nat) (r : List UInt8) (h : Rdr w b t tl s p d 0 0) (hm : s.data.toList.drop p = 39 :: r) (hwh : wh ≤ 4) (hqt : quot wh = true) :
    Calls Tryd.prog 82 #[.pointer (some ⟨b, 0, none⟩), .int .i64 (wh : Int)] w fun en w' => ThEnd w b t tl s d (.ok r) en w' := by
  obtain ⟨hlt, hd1⟩ := drop_step hm
  have hlen := h.len
  have hdle := h.dle
  have H := hide h
  have HM := hide hm
  have HD1 := hide hd1
  have HS0 := hide (sees_at h hm 92 false (by decide))
  have HS1 := hide (sees_at h hm 34 false (by decide))
  have HS2 := hide (sees_at h hm 39 true (by decide))
  have HS3 := hide (sees_two h hm 36 123 false (by simp))
  have HS4 := hide (sees_two h hm 36 40 false (by simp))
  have HS5 := hide (sees_at h hm 40 false (by decide))
  have HS6 := hide (sees_at h hm 96 false (by decide))
  have hqv : (!quot wh) = false := by rw [hqt]; rfl
  clear hqt
  have c1 := h.c1
  have c2 := h.c2
  have z2 := h.blk.frozen 2
  clear h hm hd1
  go_enter Tryd.func82, Tryd.ntmps82
  go_wp2_with fail
  refine (unhide HS0 0).mono ?_
  rintro en w1 ⟨rfl, k1, hw1⟩
  subst hw1
  go_wp2_with fail
  refine (unhide HS1 k1).mono ?_
  rintro en w2 ⟨rfl, k2, hw2⟩
  subst hw2
  go_wp2_with fail
  refine (unhide HS2 k2).mono ?_
  rintro en w3 ⟨rfl, k3, hw3⟩
  subst hw3
  go_wp2_with fail
  refine (single_any wh hwh _).mono ?_
  rintro en w9 ⟨rfl, hw9⟩
  have hw8 := hw9.symm
  subst hw8
  clear hw9
  rw [hqv]
  go_wp2_with fail
  refine (unhide HS3 k3).mono ?_
  rintro en w4 ⟨rfl, k4, hw4⟩
  subst hw4
  go_wp2_with fail
  refine (unhide HS4 k4).mono ?_
  rintro en w5 ⟨rfl, k5, hw5⟩
  subst hw5
  go_wp2_with fail
  refine (unhide HS5 k5).mono ?_
  rintro en w6 ⟨rfl, k6, hw6⟩
  subst hw6
  go_wp2_with fail
  refine (unhide HS6 k6).mono ?_
  rintro en w7 ⟨rfl, k7, hw7⟩
  subst hw7
  obtain ⟨q, hq⟩ : ∃ x, x = p + 1 := ⟨_, rfl⟩
  have hwq : IntKind.i64.wrap ((p : Int) + 1) = (q : Int) := by rw [IntKind.wrap_i64]; omega
  have hqs : q ≤ s.size := by omega
  have HQ := hide hq
  clear hq
  go_wp2
  refine bodyPost_end (res0 rfl _ _) rfl ?_
  exact ⟨rfl, (grown_but (grown_drewN w _) _).trans (grown_setCell _ ⟨b, 2, none⟩ _), q, by rw [unhide HQ]; exact unhide HD1, ((unhide H).drewN _).to q hqs⟩

set_option maxRecDepth 20000 in
set_option maxHeartbeats 4000000 in
theorem thing_39 (w : World) (b : Nat) (t : TypeId) (tl : List Value) (s : ByteArray) (p d : Nat) (wh : Nat) (r : List UInt8) (h : Rdr w b t tl s p d 0 0) (hm : s.data.toList.drop p = 39 :: r) (hwh : wh ≤ 4) (hqt : quot wh = false) :
    Calls Tryd.prog 82 #[.pointer (some ⟨b, 0, none⟩), .int .i64 (wh : Int)] w fun en w' => ThEnd w b t tl s d (match r.dropWhile (fun x => x != 39) with
      | [] => .err 11 (39 :: r)
      | _ :: r' => .ok r') en w' := by
  obtain ⟨hlt, hd1⟩ := drop_step hm
  have hlen := h.len
  have hdle := h.dle
  have H := hide h
  have HM := hide hm
  have HD1 := hide hd1
  have HS0 := hide (sees_at h hm 92 false (by decide))
  have HS1 := hide (sees_at h hm 34 false (by decide))
  have HS2 := hide (sees_at h hm 39 true (by decide))
  have hqv : (!quot wh) = true := by rw [hqt]; rfl
  have hsq := fun k => single_quotes (w.drewN k) b t tl s p d r (h.drewN k) hm
  obtain ⟨T, hTe⟩ : ∃ x, x = (match r.dropWhile (fun x => x != 39) with
      | [] => Rs.err 11 (39 :: r)
      | _ :: r' => .ok r') := ⟨_, rfl⟩
  rw [← hTe]
  have HQS : Hid (∀ k, Calls Tryd.prog 96 #[.pointer (some ⟨b, 0, none⟩)] (w.drewN k) fun en w' => ThEnd (w.drewN k) b t tl s d T en w') := hide (fun k => by rw [hTe]; exact hsq k)
  clear hqt hTe hsq
  have c1 := h.c1
  have c2 := h.c2
  have z2 := h.blk.frozen 2
  clear h hm hd1
  go_enter Tryd.func82, Tryd.ntmps82
  go_wp2_with fail
  refine (unhide HS0 0).mono ?_
  rintro en w1 ⟨rfl, k1, hw1⟩
  subst hw1
  go_wp2_with fail
  refine (unhide HS1 k1).mono ?_
  rintro en w2 ⟨rfl, k2, hw2⟩
  subst hw2
  go_wp2_with fail
  refine (unhide HS2 k2).mono ?_
  rintro en w3 ⟨rfl, k3, hw3⟩
  subst hw3
  go_wp2_with fail
  refine (single_any wh hwh _).mono ?_
  rintro en w9 ⟨rfl, hw9⟩
  have hw8 := hw9.symm
  subst hw8
  clear hw9
  rw [hqv]
  go_wp2_with fail
  refine (unhide HQS k3).mono ?_
  intro en w9 h9
  obtain ⟨he, g9, h9⟩ := h9
  subst he
  have G9 := hide g9
  have H9 := hide h9
  clear g9 h9
  go_wp2
  refine bodyPost_end (res0 rfl _ _) rfl ?_
  exact ⟨rfl, (grown_but (grown_drewN w _) _).trans (unhide G9), unhide H9⟩

set_option maxRecDepth 20000 in
set_option maxHeartbeats 4000000 in
theorem thing_36a (w : World) (b : Nat) (t : TypeId) (tl : List Value) (s : ByteArray) (p d : Nat) (wh F : Nat) (r : List UInt8) (h : Rdr w b t tl s p d 0 0) (hm : s.data.toList.drop p = 36 :: r) (hwh : wh ≤ 4) (hh : r.head? = some 123) {N : Nat} (hT : MT N) (hN : s.size ≤ p + 1 + N) (hF : 3 * (s.size - p) + 2 ≤ F) :
    Calls Tryd.prog 82 #[.pointer (some ⟨b, 0, none⟩), .int .i64 (wh : Int)] w fun en w' => ThEnd w b t tl s d (cls F (r.drop 1) (36 :: r) 125 (if quot wh then 3 else 2) d) en w' := by
  obtain ⟨hlt, hd1⟩ := drop_step hm
  have hlen := h.len
  have hdle := h.dle
  have H := hide h
  have HM := hide hm
  have HD1 := hide hd1
  have HS0 := hide (sees_at h hm 92 false (by decide))
  have HS1 := hide (sees_at h hm 34 false (by decide))
  have HS2 := hide (sees_at h hm 39 false (by decide))
  have HS3 := hide (sees_two h hm 36 123 true (by rw [hh]; rfl))
  obtain ⟨wh2, hw2⟩ : ∃ x : Nat, x = (if quot wh then 3 else 2) := ⟨_, rfl⟩
  have HBR : Hid (∀ w, Calls Tryd.prog 97 #[.int .i64 (wh : Int)] w fun e w' => e = .returned (.int .i64 (wh2 : Int)) ∧ w' = w) := hide (fun w => by rw [hw2]; exact brace_any wh hwh w)
  have hwh2 : wh2 ≤ 4 := by rw [hw2]; split <;> decide
  rw [← hw2]
  clear hw2
  have hrl : r.length = s.size - (p + 1) := by rw [← hd1, List.length_drop, data_len]
  have hr0 : 0 < r.length := by rw [head_cons hh]; simp
  clear hh
  have c1 := h.c1
  have c2 := h.c2
  have z2 := h.blk.frozen 2
  clear h hm hd1
  go_enter Tryd.func82, Tryd.ntmps82
  go_wp2_with fail
  refine (unhide HS0 0).mono ?_
  rintro en w1 ⟨rfl, k1, hw1⟩
  subst hw1
  go_wp2_with fail
  refine (unhide HS1 k1).mono ?_
  rintro en w2 ⟨rfl, k2, hw2⟩
  subst hw2
  go_wp2_with fail
  refine (unhide HS2 k2).mono ?_
  rintro en w3 ⟨rfl, k3, hw3⟩
  subst hw3
  go_wp2_with fail
  refine (unhide HS3 k3).mono ?_
  rintro en w4 ⟨rfl, k4, hw4⟩
  subst hw4
  go_wp2_with fail
  refine (unhide HBR _).mono ?_
  rintro en w8 ⟨rfl, hw8⟩
  have hw7 := hw8.symm
  subst hw7
  clear hw8
  go_wp2_with fail
  refine (around_any hT (w.drewN k4) b t tl s p d 2 wh2 F ⟨#[36, 123]⟩ 125 ((unhide H).drewN _) rfl (by omega) (by omega) hwh2 (by omega) _ rfl _ rfl).mono ?_
  intro en w9 h9
  obtain ⟨he, g9, h9⟩ := h9
  subst he
  have G9 := hide g9
  have H9 := hide h9
  clear g9 h9
  go_wp2
  refine bodyPost_end (res0 rfl _ _) rfl ?_
  refine ⟨rfl, (grown_but (grown_drewN w _) _).trans (unhide G9), ?_⟩
  have h9 := unhide H9
  rw [unhide HM] at h9
  rw [show p + 2 = p + 1 + 1 from rfl, ← List.drop_drop, unhide HD1] at h9
  exact h9

set_option maxRecDepth 20000 in
set_option maxHeartbeats 4000000 in
theorem thing_36b (w : World) (b : Nat) (t : TypeId) (tl : List Value) (s : ByteArray) (p d : Nat) (wh F : Nat) (r : List UInt8) (h : Rdr w b t tl s p d 0 0) (hm : s.data.toList.drop p = 36 :: r) (hh : r.head? = some 40) {N : Nat} (hT : MT N) (hN : s.size ≤ p + 1 + N) (hF : 3 * (s.size - p) + 2 ≤ F) :
    Calls Tryd.prog 82 #[.pointer (some ⟨b, 0, none⟩), .int .i64 (wh : Int)] w fun en w' => ThEnd w b t tl s d (cls F (r.drop 1) r 41 4 d) en w' := by
  obtain ⟨hlt, hd1⟩ := drop_step hm
  have hlen := h.len
  have hdle := h.dle
  have H := hide h
  have HM := hide hm
  have HD1 := hide hd1
  have HS0 := hide (sees_at h hm 92 false (by decide))
  have HS1 := hide (sees_at h hm 34 false (by decide))
  have HS2 := hide (sees_at h hm 39 false (by decide))
  have HS3 := hide (sees_two h hm 36 123 false (by rw [hh]; decide))
  have HS4 := hide (sees_two h hm 36 40 true (by rw [hh]; rfl))
  have hrl : r.length = s.size - (p + 1) := by rw [← hd1, List.length_drop, data_len]
  have hr0 : 0 < r.length := by rw [head_cons hh]; simp
  clear hh
  have c1 := h.c1
  have c2 := h.c2
  have z2 := h.blk.frozen 2
  clear h hm hd1
  go_enter Tryd.func82, Tryd.ntmps82
  go_wp2_with fail
  refine (unhide HS0 0).mono ?_
  rintro en w1 ⟨rfl, k1, hw1⟩
  subst hw1
  go_wp2_with fail
  refine (unhide HS1 k1).mono ?_
  rintro en w2 ⟨rfl, k2, hw2⟩
  subst hw2
  go_wp2_with fail
  refine (unhide HS2 k2).mono ?_
  rintro en w3 ⟨rfl, k3, hw3⟩
  subst hw3
  go_wp2_with fail
  refine (unhide HS3 k3).mono ?_
  rintro en w4 ⟨rfl, k4, hw4⟩
  subst hw4
  go_wp2_with fail
  refine (unhide HS4 k4).mono ?_
  rintro en w5 ⟨rfl, k5, hw5⟩
  subst hw5
  obtain ⟨q, hq⟩ : ∃ x, x = p + 1 := ⟨_, rfl⟩
  have hwq : IntKind.i64.wrap ((p : Int) + 1) = (q : Int) := by rw [IntKind.wrap_i64]; omega
  have HQ := hide hq
  have hqp : p < q ∧ q < s.size ∧ s.size ≤ q + 1 + N ∧ 3 * (s.size - (q + 1)) + 5 ≤ F := by omega
  clear hq
  go_wp2_with fail
  refine (around_any hT _ b t tl s q d 1 4 F ⟨#[40]⟩ 41 (((unhide H).drewN _).to q (by omega)) rfl (by omega) (by omega) (by decide) (by omega) _ rfl _ rfl).mono ?_
  intro en w9 h9
  obtain ⟨he, g9, h9⟩ := h9
  subst he
  have G9 := hide g9
  have H9 := hide h9
  clear g9 h9
  go_wp2
  refine bodyPost_end (res0 rfl _ _) rfl ?_
  refine ⟨rfl, (grown_but (grown_drewN w _) _).trans ((grown_setCell _ ⟨b, 2, none⟩ _).trans (unhide G9)), ?_⟩
  have h9 := unhide H9
  rw [← List.drop_drop, unhide HQ, unhide HD1] at h9
  exact h9

set_option maxRecDepth 20000 in
set_option maxHeartbeats 4000000 in
theorem thing_36c (w : World) (b : Nat) (t : TypeId) (tl : List Value) (s : ByteArray) (p d : Nat) (wh : Nat) (r : List UInt8) (h : Rdr w b t tl s p d 0 0) (hm : s.data.toList.drop p = 36 :: r) (hh1 : r.head? ≠ some 123) (hh2 : r.head? ≠ some 40) :
    Calls Tryd.prog 82 #[.pointer (some ⟨b, 0, none⟩), .int .i64 (wh : Int)] w fun en w' => ThEnd w b t tl s d (.ok r) en w' := by
  obtain ⟨hlt, hd1⟩ := drop_step hm
  have hlen := h.len
  have hdle := h.dle
  have H := hide h
  have HM := hide hm
  have HD1 := hide hd1
  have HS0 := hide (sees_at h hm 92 false (by decide))
  have HS1 := hide (sees_at h hm 34 false (by decide))
  have HS2 := hide (sees_at h hm 39 false (by decide))
  have HS3 := hide (sees_two h hm 36 123 false (by simp [hh1]))
  have HS4 := hide (sees_two h hm 36 40 false (by simp [hh2]))
  have HS5 := hide (sees_at h hm 40 false (by decide))
  have HS6 := hide (sees_at h hm 96 false (by decide))
  clear hh1 hh2
  have c1 := h.c1
  have c2 := h.c2
  have z2 := h.blk.frozen 2
  clear h hm hd1
  go_enter Tryd.func82, Tryd.ntmps82
  go_wp2_with fail
  refine (unhide HS0 0).mono ?_
  rintro en w1 ⟨rfl, k1, hw1⟩
  subst hw1
  go_wp2_with fail
  refine (unhide HS1 k1).mono ?_
  rintro en w2 ⟨rfl, k2, hw2⟩
  subst hw2
  go_wp2_with fail
  refine (unhide HS2 k2).mono ?_
  rintro en w3 ⟨rfl, k3, hw3⟩
  subst hw3
  go_wp2_with fail
  refine (unhide HS3 k3).mono ?_
  rintro en w4 ⟨rfl, k4, hw4⟩
  subst hw4
  go_wp2_with fail
  refine (unhide HS4 k4).mono ?_
  rintro en w5 ⟨rfl, k5, hw5⟩
  subst hw5
  go_wp2_with fail
  refine (unhide HS5 k5).mono ?_
  rintro en w6 ⟨rfl, k6, hw6⟩
  subst hw6
  go_wp2_with fail
  refine (unhide HS6 k6).mono ?_
  rintro en w7 ⟨rfl, k7, hw7⟩
  subst hw7
  obtain ⟨q, hq⟩ : ∃ x, x = p + 1 := ⟨_, rfl⟩
  have hwq : IntKind.i64.wrap ((p : Int) + 1) = (q : Int) := by rw [IntKind.wrap_i64]; omega
  have hqs : q ≤ s.size := by omega
  have HQ := hide hq
  clear hq
  go_wp2
  refine bodyPost_end (res0 rfl _ _) rfl ?_
  exact ⟨rfl, (grown_but (grown_drewN w _) _).trans (grown_setCell _ ⟨b, 2, none⟩ _), q, by rw [unhide HQ]; exact unhide HD1, ((unhide H).drewN _).to q hqs⟩

set_option maxRecDepth 20000 in
set_option maxHeartbeats 4000000 in
theorem thing_40 (w : World) (b : Nat) (t : TypeId) (tl : List Value) (s : ByteArray) (p d : Nat) (wh F : Nat) (r : List UInt8) (h : Rdr w b t tl s p d 0 0) (hm : s.data.toList.drop p = 40 :: r) (h4 : wh = 4) {N : Nat} (hT : MT N) (hN : s.size ≤ p + 1 + N) (hF : 3 * (s.size - p) + 2 ≤ F) :
    Calls Tryd.prog 82 #[.pointer (some ⟨b, 0, none⟩), .int .i64 (wh : Int)] w fun en w' => ThEnd w b t tl s d (cls F r (40 :: r) 41 4 d) en w' := by
  obtain ⟨hlt, hd1⟩ := drop_step hm
  have hlen := h.len
  have hdle := h.dle
  have H := hide h
  have HM := hide hm
  have HD1 := hide hd1
  have HS0 := hide (sees_at h hm 92 false (by decide))
  have HS1 := hide (sees_at h hm 34 false (by decide))
  have HS2 := hide (sees_at h hm 39 false (by decide))
  have HS3 := hide (sees_two h hm 36 123 false (by simp))
  have HS4 := hide (sees_two h hm 36 40 false (by simp))
  have HS5 := hide (sees_at h hm 40 true (by decide))
  have h4b : ((wh : Int) == 4) = true := by rw [beq_iff_eq]; omega
  clear h4
  have c1 := h.c1
  have c2 := h.c2
  have z2 := h.blk.frozen 2
  clear h hm hd1
  go_enter Tryd.func82, Tryd.ntmps82
  go_wp2_with fail
  refine (unhide HS0 0).mono ?_
  rintro en w1 ⟨rfl, k1, hw1⟩
  subst hw1
  go_wp2_with fail
  refine (unhide HS1 k1).mono ?_
  rintro en w2 ⟨rfl, k2, hw2⟩
  subst hw2
  go_wp2_with fail
  refine (unhide HS2 k2).mono ?_
  rintro en w3 ⟨rfl, k3, hw3⟩
  subst hw3
  go_wp2_with fail
  refine (unhide HS3 k3).mono ?_
  rintro en w4 ⟨rfl, k4, hw4⟩
  subst hw4
  go_wp2_with fail
  refine (unhide HS4 k4).mono ?_
  rintro en w5 ⟨rfl, k5, hw5⟩
  subst hw5
  go_wp2_with fail
  refine (unhide HS5 k5).mono ?_
  rintro en w6 ⟨rfl, k6, hw6⟩
  subst hw6
  go_wp2_with fail
  refine (around_any hT (w.drewN k6) b t tl s p d 1 4 F ⟨#[40]⟩ 41 ((unhide H).drewN _) rfl (by omega) (by omega) (by decide) (by omega) _ rfl _ rfl).mono ?_
  intro en w9 h9
  obtain ⟨he, g9, h9⟩ := h9
  subst he
  have G9 := hide g9
  have H9 := hide h9
  clear g9 h9
  go_wp2
  refine bodyPost_end (res0 rfl _ _) rfl ?_
  refine ⟨rfl, (grown_but (grown_drewN w _) _).trans (unhide G9), ?_⟩
  have h9 := unhide H9
  rw [unhide HM] at h9
  rw [unhide HD1] at h9
  exact h9

set_option maxRecDepth 20000 in
set_option maxHeartbeats 4000000 in
theorem thing_40out (w : World) (b : Nat) (t : TypeId) (tl : List Value) (s : ByteArray) (p d : Nat) (wh : Nat) (r : List UInt8) (h : Rdr w b t tl s p d 0 0) (hm : s.data.toList.drop p = 40 :: r) (h4 : wh ≠ 4) :
    Calls Tryd.prog 82 #[.pointer (some ⟨b, 0, none⟩), .int .i64 (wh : Int)] w fun en w' => ThEnd w b t tl s d (.ok r) en w' := by
  obtain ⟨hlt, hd1⟩ := drop_step hm
  have hlen := h.len
  have hdle := h.dle
  have H := hide h
  have HM := hide hm
  have HD1 := hide hd1
  have HS0 := hide (sees_at h hm 92 false (by decide))
  have HS1 := hide (sees_at h hm 34 false (by decide))
  have HS2 := hide (sees_at h hm 39 false (by decide))
  have HS3 := hide (sees_two h hm 36 123 false (by simp))
  have HS4 := hide (sees_two h hm 36 40 false (by simp))
  have HS5 := hide (sees_at h hm 40 true (by decide))
  have HS6 := hide (sees_at h hm 96 false (by decide))
  have h4b : ((wh : Int) == 4) = false := by rw [beq_eq_false_iff_ne]; omega
  clear h4
  have c1 := h.c1
  have c2 := h.c2
  have z2 := h.blk.frozen 2
  clear h hm hd1
  go_enter Tryd.func82, Tryd.ntmps82
  go_wp2_with fail
  refine (unhide HS0 0).mono ?_
  rintro en w1 ⟨rfl, k1, hw1⟩
  subst hw1
  go_wp2_with fail
  refine (unhide HS1 k1).mono ?_
  rintro en w2 ⟨rfl, k2, hw2⟩
  subst hw2
  go_wp2_with fail
  refine (unhide HS2 k2).mono ?_
  rintro en w3 ⟨rfl, k3, hw3⟩
  subst hw3
  go_wp2_with fail
  refine (unhide HS3 k3).mono ?_
  rintro en w4 ⟨rfl, k4, hw4⟩
  subst hw4
  go_wp2_with fail
  refine (unhide HS4 k4).mono ?_
  rintro en w5 ⟨rfl, k5, hw5⟩
  subst hw5
  go_wp2_with fail
  refine (unhide HS5 k5).mono ?_
  rintro en w6 ⟨rfl, k6, hw6⟩
  subst hw6
  go_wp2_with fail
  refine (unhide HS6 k6).mono ?_
  rintro en w7 ⟨rfl, k7, hw7⟩
  subst hw7
  obtain ⟨q, hq⟩ : ∃ x, x = p + 1 := ⟨_, rfl⟩
  have hwq : IntKind.i64.wrap ((p : Int) + 1) = (q : Int) := by rw [IntKind.wrap_i64]; omega
  have hqs : q ≤ s.size := by omega
  have HQ := hide hq
  clear hq
  go_wp2
  refine bodyPost_end (res0 rfl _ _) rfl ?_
  exact ⟨rfl, (grown_but (grown_drewN w _) _).trans (grown_setCell _ ⟨b, 2, none⟩ _), q, by rw [unhide HQ]; exact unhide HD1, ((unhide H).drewN _).to q hqs⟩

set_option maxRecDepth 20000 in
set_option maxHeartbeats 4000000 in
theorem thing_96 (w : World) (b : Nat) (t : TypeId) (tl : List Value) (s : ByteArray) (p d : Nat) (wh : Nat) (r : List UInt8) (h : Rdr w b t tl s p d 0 0) (hm : s.data.toList.drop p = 96 :: r) :
    Calls Tryd.prog 82 #[.pointer (some ⟨b, 0, none⟩), .int .i64 (wh : Int)] w fun en w' => ThEnd w b t tl s d (.err 10 (96 :: r)) en w' := by
  obtain ⟨hlt, hd1⟩ := drop_step hm
  have hlen := h.len
  have hdle := h.dle
  have H := hide h
  have HM := hide hm
  have HD1 := hide hd1
  have HS0 := hide (sees_at h hm 92 false (by decide))
  have HS1 := hide (sees_at h hm 34 false (by decide))
  have HS2 := hide (sees_at h hm 39 false (by decide))
  have HS3 := hide (sees_two h hm 36 123 false (by simp))
  have HS4 := hide (sees_two h hm 36 40 false (by simp))
  have HS5 := hide (sees_at h hm 40 false (by decide))
  have HS6 := hide (sees_at h hm 96 true (by decide))
  have c1 := h.c1
  have c2 := h.c2
  have z2 := h.blk.frozen 2
  clear h hm hd1
  go_enter Tryd.func82, Tryd.ntmps82
  go_wp2_with fail
  refine (unhide HS0 0).mono ?_
  rintro en w1 ⟨rfl, k1, hw1⟩
  subst hw1
  go_wp2_with fail
  refine (unhide HS1 k1).mono ?_
  rintro en w2 ⟨rfl, k2, hw2⟩
  subst hw2
  go_wp2_with fail
  refine (unhide HS2 k2).mono ?_
  rintro en w3 ⟨rfl, k3, hw3⟩
  subst hw3
  go_wp2_with fail
  refine (unhide HS3 k3).mono ?_
  rintro en w4 ⟨rfl, k4, hw4⟩
  subst hw4
  go_wp2_with fail
  refine (unhide HS4 k4).mono ?_
  rintro en w5 ⟨rfl, k5, hw5⟩
  subst hw5
  go_wp2_with fail
  refine (unhide HS5 k5).mono ?_
  rintro en w6 ⟨rfl, k6, hw6⟩
  subst hw6
  go_wp2_with fail
  refine (unhide HS6 k6).mono ?_
  rintro en w7 ⟨rfl, k7, hw7⟩
  subst hw7
  go_wp2_with fail
  refine (fail_any 10 (p : Int) ((unhide H).drewN _)).mono ?_
  rintro en w9 ⟨rfl, h9, g9⟩
  have G9 := hide g9
  have H9 := hide h9
  clear g9 h9
  go_wp2
  refine bodyPost_end (res0 rfl _ _) rfl ?_
  refine ⟨rfl, (grown_but (grown_drewN w _) _).trans (unhide G9), p, d, by decide, ?_⟩
  rw [← unhide HM, place_of (by omega)]
  exact unhide H9

set_option maxRecDepth 20000 in
set_option maxHeartbeats 4000000 in
theorem thing_else (w : World) (b : Nat) (t : TypeId) (tl : List Value) (s : ByteArray) (p d : Nat) (wh : Nat) (c : UInt8) (r : List UInt8) (h : Rdr w b t tl s p d 0 0) (hm : s.data.toList.drop p = c :: r) (n1 : c ≠ 92) (n2 : c ≠ 34) (n3 : c ≠ 39) (n4 : c ≠ 36) (n5 : c ≠ 40) (n6 : c ≠ 96) :
    Calls Tryd.prog 82 #[.pointer (some ⟨b, 0, none⟩), .int .i64 (wh : Int)] w fun en w' => ThEnd w b t tl s d (.ok r) en w' := by
  obtain ⟨hlt, hd1⟩ := drop_step hm
  have hlen := h.len
  have hdle := h.dle
  have H := hide h
  have HM := hide hm
  have HD1 := hide hd1
  have HS0 := hide (sees_at h hm 92 false (by simpa using n1))
  have HS1 := hide (sees_at h hm 34 false (by simpa using n2))
  have HS2 := hide (sees_at h hm 39 false (by simpa using n3))
  have HS3 := hide (sees_two h hm 36 123 false (by simp [n4]))
  have HS4 := hide (sees_two h hm 36 40 false (by simp [n4]))
  have HS5 := hide (sees_at h hm 40 false (by simpa using n5))
  have HS6 := hide (sees_at h hm 96 false (by simpa using n6))
  clear n1 n2 n3 n4 n5 n6
  have c1 := h.c1
  have c2 := h.c2
  have z2 := h.blk.frozen 2
  clear h hm hd1
  go_enter Tryd.func82, Tryd.ntmps82
  go_wp2_with fail
  refine (unhide HS0 0).mono ?_
  rintro en w1 ⟨rfl, k1, hw1⟩
  subst hw1
  go_wp2_with fail
  refine (unhide HS1 k1).mono ?_
  rintro en w2 ⟨rfl, k2, hw2⟩
  subst hw2
  go_wp2_with fail
  refine (unhide HS2 k2).mono ?_
  rintro en w3 ⟨rfl, k3, hw3⟩
  subst hw3
  go_wp2_with fail
  refine (unhide HS3 k3).mono ?_
  rintro en w4 ⟨rfl, k4, hw4⟩
  subst hw4
  go_wp2_with fail
  refine (unhide HS4 k4).mono ?_
  rintro en w5 ⟨rfl, k5, hw5⟩
  subst hw5
  go_wp2_with fail
  refine (unhide HS5 k5).mono ?_
  rintro en w6 ⟨rfl, k6, hw6⟩
  subst hw6
  go_wp2_with fail
  refine (unhide HS6 k6).mono ?_
  rintro en w7 ⟨rfl, k7, hw7⟩
  subst hw7
  obtain ⟨q, hq⟩ : ∃ x, x = p + 1 := ⟨_, rfl⟩
  have hwq : IntKind.i64.wrap ((p : Int) + 1) = (q : Int) := by rw [IntKind.wrap_i64]; omega
  have hqs : q ≤ s.size := by omega
  have HQ := hide hq
  clear hq
  go_wp2
  refine bodyPost_end (res0 rfl _ _) rfl ?_
  exact ⟨rfl, (grown_but (grown_drewN w _) _).trans (grown_setCell _ ⟨b, 2, none⟩ _), q, by rw [unhide HQ]; exact unhide HD1, ((unhide H).drewN _).to q hqs⟩

theorem thing_step {M : Nat} (hT : ∀ N, N < M → MT N) : MT M := by
  intro w b t tl s p d wh F h hp hN hwh hF wv hwv
  subst hwv
  obtain ⟨F, rfl⟩ : ∃ G, F = G + 1 := ⟨F - 1, by omega⟩
  have hm := drop_at hp
  rw [hm, thg_succ]
  obtain ⟨c, hc⟩ : ∃ x, x = s[p] := ⟨_, rfl⟩
  obtain ⟨r, hr⟩ : ∃ x, x = s.data.toList.drop (p + 1) := ⟨_, rfl⟩
  rw [← hc, ← hr] at hm ⊢
  have hMT := hT (M - 1) (by omega)
  by_cases e1 : c = 92
  · subst e1
    rw [if_pos rfl]
    exact thing_92 w b t tl s p d wh r h hm
  rw [if_neg e1]
  by_cases e2 : c = 34
  · subst e2
    rw [if_pos rfl]
    by_cases h1 : wh = 1
    · rw [if_pos h1]
      exact thing_34in w b t tl s p d wh r h hm h1
    · rw [if_neg h1]
      exact thing_34 w b t tl s p d wh F r h hm h1 hMT (by omega) (by omega)
  rw [if_neg e2]
  by_cases e3 : c = 39
  · subst e3
    rw [if_pos rfl]
    rcases Bool.eq_false_or_eq_true (quot wh) with h1 | h1
    · rw [h1, if_pos rfl]
      exact thing_39in w b t tl s p d wh r h hm hwh h1
    · rw [h1, if_neg (by decide)]
      exact thing_39 w b t tl s p d wh r h hm hwh h1
  rw [if_neg e3]
  by_cases e4 : c = 36
  · subst e4
    rw [if_pos rfl]
    by_cases h1 : r.head? = some 123
    · rw [if_pos h1]
      exact thing_36a w b t tl s p d wh F r h hm hwh h1 hMT (by omega) (by omega)
    · rw [if_neg h1]
      by_cases h2 : r.head? = some 40
      · rw [if_pos h2]
        exact thing_36b w b t tl s p d wh F r h hm h2 hMT (by omega) (by omega)
      · rw [if_neg h2]
        exact thing_36c w b t tl s p d wh r h hm h1 h2
  rw [if_neg e4]
  by_cases e5 : c = 40
  · subst e5
    rw [if_pos rfl]
    by_cases h1 : wh = 4
    · rw [if_pos h1]
      exact thing_40 w b t tl s p d wh F r h hm h1 hMT (by omega) (by omega)
    · rw [if_neg h1]
      exact thing_40out w b t tl s p d wh r h hm h1
  rw [if_neg e5]
  by_cases e6 : c = 96
  · subst e6
    rw [if_pos rfl]
    exact thing_96 w b t tl s p d wh r h hm
  rw [if_neg e6]
  exact thing_else w b t tl s p d wh c r h hm e1 e2 e3 e4 e5 e6
theorem thing_all (M : Nat) : MT M := by
  induction M using Nat.strongRecOn with
  | ind M ih => exact thing_step ih

end Go.Proofs.YtodcfgbcigjjfaaDoor

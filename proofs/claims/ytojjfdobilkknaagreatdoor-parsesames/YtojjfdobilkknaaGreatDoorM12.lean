/- The reader's 'thing', by its first bytes.; The program's 'Piece'.; Words in memory: a slice of parts, each of six cells; the words in them, likewise. -/
import Derived.Test.YtojjfdobilkknaaGreatDoorM11
import Derived.Test.YtojjfdobilkknaaGreatDoorM09
import Derived.Test.YtojjfdobilkknaaGreatDoorM03
set_option maxRecDepth 20000
set_option maxHeartbeats 4000000
namespace Go.Proofs.YtojjfdobilkknaaGreatDoor
open Go.RowKit
theorem sees_at {w : World} {b : Nat} {t : TypeId} {tl : List Value} {s : ByteArray} {p d : Nat} {f bl : Int} {c : UInt8} {r : List UInt8} (h : Rdr w b t tl s p d f bl) (hm : s.data.toList.drop p = c :: r) (x : UInt8) (v : Bool) (hv : (c == x) = v) (k : Nat) :
 Calls Tryz.prog 48 #[.pointer (some ⟨b, 0, none⟩), .string ⟨#[x]⟩] (w.drewN k) fun e w' => e = .returned (.bool v) ∧ ∃ j, w' = w.drewN j := by
 refine (sees_any ⟨#[x]⟩ (h.drewN k)).mono ?_
 rintro e w' ⟨rfl, j, rfl⟩
 rw [hm, show (⟨#[x]⟩ : ByteArray).data.toList = [x] from rfl, hasP_one, hv]
 exact ⟨rfl, k + j, by rw [World.drewN_drewN]⟩
theorem sees_two {w : World} {b : Nat} {t : TypeId} {tl : List Value} {s : ByteArray} {p d : Nat} {f bl : Int} {c : UInt8} {r : List UInt8} (h : Rdr w b t tl s p d f bl) (hm : s.data.toList.drop p = c :: r) (x y : UInt8) (v : Bool) (hv : ((c == x) && (r.head? == some y)) = v) (k : Nat) :
 Calls Tryz.prog 48 #[.pointer (some ⟨b, 0, none⟩), .string ⟨#[x, y]⟩] (w.drewN k) fun e w' => e = .returned (.bool v) ∧ ∃ j, w' = w.drewN j := by
 refine (sees_any ⟨#[x, y]⟩ (h.drewN k)).mono ?_
 rintro e w' ⟨rfl, j, rfl⟩
 rw [hm, show (⟨#[x, y]⟩ : ByteArray).data.toList = [x, y] from rfl, hasP_two, hv]
 exact ⟨rfl, k + j, by rw [World.drewN_drewN]⟩
theorem thing_92 (w : World) (b : Nat) (t : TypeId) (tl : List Value) (s : ByteArray) (p d : Nat) (wh : Nat) (r : List UInt8) (h : Rdr w b t tl s p d 0 0) (hm : s.data.toList.drop p = 92 :: r) :
 Calls Tryz.prog 72 #[.pointer (some ⟨b, 0, none⟩), .int .i64 (wh : Int)] w fun en w' => ThEnd w b t tl s d (.ok (r.drop 1)) en w' := by
 obtain ⟨hlt, hd1⟩ := drop_step hm
 have hlen := h.len
 have hdle := h.dle
 have H := hide h
 have HM := hide hm
 have HD1 := hide hd1
 have HS0 := hide (sees_at h hm 92 true (by decide))
 have c1 := h.c1
 have c2 := h.c2
 have z2 := h.blk.frozen 2
 clear h hm hd1
 go_enter Tryz.func72, Tryz.ntmps72
 go_wp2_with fail
 refine (uh HS0 0).mono ?_
 rintro en w1 ⟨rfl, k1, hw1⟩
 subst hw1
 obtain ⟨q2, hq2⟩ : ∃ x, x = p + 2 := ⟨_, rfl⟩
 have hwq : IntKind.i64.wrap ((p : Int) + 2) = (q2 : Int) := by rw [IntKind.wrap_i64]; omega
 obtain ⟨q, hq⟩ : ∃ x, x = min q2 s.size := ⟨_, rfl⟩
 have hmn : min (q2 : Int) (s.size : Int) = (q : Int) := by omega
 have hqs : q ≤ s.size := by omega
 have HQ : Hid (s.data.toList.drop q = r.drop 1) := hide (by
  by_cases hb : p + 2 ≤ s.size
  ·rw [show q = p + 1 + 1 by omega, ← List.drop_drop, uh HD1]
  ·have : r.length = 0 := by rw [← uh HD1, List.length_drop, data_len]; omega
   rw [List.eq_nil_of_length_eq_zero this, drop_nil (show s.size ≤ q by omega)]
   rfl)
 clear hq hq2
 go_wp2_with fail
 go_region
 all_goals
  go_wp2
  refine bodyPost_end (res0 rfl _ _) rfl ?_
  exact ⟨rfl, (grown_but (gdn w _) _).trans ((grown_but ⟨rfl, rfl, rfl, ler _, fun _ _ _ => rfl⟩ _).trans (gsc _ ⟨b, 2, none⟩ _)), q, uh HQ, (((uh H).drewN _).kept ⟨rfl, rfl, rfl, ler _, fun _ _ _ => rfl⟩).to _ (by omega)⟩
theorem thing_34in (w : World) (b : Nat) (t : TypeId) (tl : List Value) (s : ByteArray) (p d : Nat) (wh : Nat) (r : List UInt8) (h : Rdr w b t tl s p d 0 0) (hm : s.data.toList.drop p = 34 :: r) (h1 : wh = 1) :
 Calls Tryz.prog 72 #[.pointer (some ⟨b, 0, none⟩), .int .i64 (wh : Int)] w fun en w' => ThEnd w b t tl s d (.ok r) en w' := by
 obtain ⟨hlt, hd1⟩ := drop_step hm
 have hlen := h.len
 have hdle := h.dle
 have H := hide h
 have HM := hide hm
 have HD1 := hide hd1
 have HS0 := hide (sees_at h hm 92 false (by decide))
 have HS1 := hide (sees_at h hm 34 true (by decide))
 have HS2 := hide (sees_at h hm 39 false (by decide))
 have HS3 := hide (sees_two h hm 36 123 false (by simp))
 have HS4 := hide (sees_two h hm 36 40 false (by simp))
 have HS5 := hide (sees_at h hm 40 false (by decide))
 have HS6 := hide (sees_at h hm 96 false (by decide))
 have h1b : ((wh : Int) == 1) = true := by rw [beq_iff_eq]; omega
 clear h1
 have c1 := h.c1
 have c2 := h.c2
 have z2 := h.blk.frozen 2
 clear h hm hd1
 go_enter Tryz.func72, Tryz.ntmps72
 go_wp2_with fail
 refine (uh HS0 0).mono ?_
 rintro en w1 ⟨rfl, k1, hw1⟩
 subst hw1
 go_wp2_with fail
 refine (uh HS1 k1).mono ?_
 rintro en w2 ⟨rfl, k2, hw2⟩
 subst hw2
 go_wp2_with fail
 refine (uh HS2 k2).mono ?_
 rintro en w3 ⟨rfl, k3, hw3⟩
 subst hw3
 go_wp2_with fail
 refine (uh HS3 k3).mono ?_
 rintro en w4 ⟨rfl, k4, hw4⟩
 subst hw4
 go_wp2_with fail
 refine (uh HS4 k4).mono ?_
 rintro en w5 ⟨rfl, k5, hw5⟩
 subst hw5
 go_wp2_with fail
 refine (uh HS5 k5).mono ?_
 rintro en w6 ⟨rfl, k6, hw6⟩
 subst hw6
 go_wp2_with fail
 refine (uh HS6 k6).mono ?_
 rintro en w7 ⟨rfl, k7, hw7⟩
 subst hw7
 obtain ⟨q, hq⟩ : ∃ x, x = p + 1 := ⟨_, rfl⟩
 have hwq : IntKind.i64.wrap ((p : Int) + 1) = (q : Int) := by rw [IntKind.wrap_i64]; omega
 have hqs : q ≤ s.size := by omega
 have HQ := hide hq
 clear hq
 go_wp2
 refine bodyPost_end (res0 rfl _ _) rfl ?_
 exact ⟨rfl, (grown_but (gdn w _) _).trans (gsc _ ⟨b, 2, none⟩ _), q, by rw [uh HQ]; exact uh HD1, ((uh H).drewN _).to q hqs⟩
theorem thing_34 (w : World) (b : Nat) (t : TypeId) (tl : List Value) (s : ByteArray) (p d : Nat) (wh F : Nat) (r : List UInt8) (h : Rdr w b t tl s p d 0 0) (hm : s.data.toList.drop p = 34 :: r) (h1 : wh ≠ 1) {N : Nat} (hT : MT N) (hN : s.size ≤ p + 1 + N) (hF : 3 * (s.size - p) + 2 ≤ F) :
 Calls Tryz.prog 72 #[.pointer (some ⟨b, 0, none⟩), .int .i64 (wh : Int)] w fun en w' => ThEnd w b t tl s d (cls F r (34 :: r) 34 1 d) en w' := by
 obtain ⟨hlt, hd1⟩ := drop_step hm
 have hlen := h.len
 have hdle := h.dle
 have H := hide h
 have HM := hide hm
 have HD1 := hide hd1
 have HS0 := hide (sees_at h hm 92 false (by decide))
 have HS1 := hide (sees_at h hm 34 true (by decide))
 have h1b : ¬ (wh : Int) = 1 := by omega
 clear h1
 have c1 := h.c1
 have c2 := h.c2
 have z2 := h.blk.frozen 2
 clear h hm hd1
 go_enter Tryz.func72, Tryz.ntmps72
 go_wp2_with fail
 refine (uh HS0 0).mono ?_
 rintro en w1 ⟨rfl, k1, hw1⟩
 subst hw1
 go_wp2_with fail
 refine (uh HS1 k1).mono ?_
 rintro en w2 ⟨rfl, k2, hw2⟩
 subst hw2
 go_wp2_with fail
 refine (around_any hT (w.drewN k2) b t tl s p d 1 1 F ⟨#[34]⟩ 34 ((uh H).drewN _) rfl (by omega) (by omega) (by decide) (by omega) _ rfl _ rfl).mono ?_
 intro en w9 h9
 obtain ⟨he, g9, h9⟩ := h9
 subst he
 have G9 := hide g9
 have H9 := hide h9
 clear g9 h9
 go_wp2
 refine bodyPost_end (res0 rfl _ _) rfl ?_
 refine ⟨rfl, (grown_but (gdn w _) _).trans (uh G9), ?_⟩
 have h9 := uh H9
 rw [uh HM] at h9
 rw [uh HD1] at h9
 exact h9
theorem thing_39in (w : World) (b : Nat) (t : TypeId) (tl : List Value) (s : ByteArray) (p d : Nat) (wh : Nat) (r : List UInt8) (h : Rdr w b t tl s p d 0 0) (hm : s.data.toList.drop p = 39 :: r) (hwh : wh ≤ 4) (hqt : quot wh = true) :
 Calls Tryz.prog 72 #[.pointer (some ⟨b, 0, none⟩), .int .i64 (wh : Int)] w fun en w' => ThEnd w b t tl s d (.ok r) en w' := by
 obtain ⟨hlt, hd1⟩ := drop_step hm
 have hlen := h.len
 have hdle := h.dle
 have H := hide h
 have HM := hide hm
 have HD1 := hide hd1
 have HS0 := hide (sees_at h hm 92 false (by decide))
 have HS1 := hide (sees_at h hm 34 false (by decide))
 have HS2 := hide (sees_at h hm 39 true (by decide))
 have HS3 := hide (sees_two h hm 36 123 false (by simp))
 have HS4 := hide (sees_two h hm 36 40 false (by simp))
 have HS5 := hide (sees_at h hm 40 false (by decide))
 have HS6 := hide (sees_at h hm 96 false (by decide))
 have hqv : (!quot wh) = false := by rw [hqt]; rfl
 clear hqt
 have c1 := h.c1
 have c2 := h.c2
 have z2 := h.blk.frozen 2
 clear h hm hd1
 go_enter Tryz.func72, Tryz.ntmps72
 go_wp2_with fail
 refine (uh HS0 0).mono ?_
 rintro en w1 ⟨rfl, k1, hw1⟩
 subst hw1
 go_wp2_with fail
 refine (uh HS1 k1).mono ?_
 rintro en w2 ⟨rfl, k2, hw2⟩
 subst hw2
 go_wp2_with fail
 refine (uh HS2 k2).mono ?_
 rintro en w3 ⟨rfl, k3, hw3⟩
 subst hw3
 go_wp2_with fail
 refine (single_any wh hwh _).mono ?_
 rintro en w9 ⟨rfl, hw9⟩
 have hw8 := hw9.symm
 subst hw8
 clear hw9
 rw [hqv]
 go_wp2_with fail
 refine (uh HS3 k3).mono ?_
 rintro en w4 ⟨rfl, k4, hw4⟩
 subst hw4
 go_wp2_with fail
 refine (uh HS4 k4).mono ?_
 rintro en w5 ⟨rfl, k5, hw5⟩
 subst hw5
 go_wp2_with fail
 refine (uh HS5 k5).mono ?_
 rintro en w6 ⟨rfl, k6, hw6⟩
 subst hw6
 go_wp2_with fail
 refine (uh HS6 k6).mono ?_
 rintro en w7 ⟨rfl, k7, hw7⟩
 subst hw7
 obtain ⟨q, hq⟩ : ∃ x, x = p + 1 := ⟨_, rfl⟩
 have hwq : IntKind.i64.wrap ((p : Int) + 1) = (q : Int) := by rw [IntKind.wrap_i64]; omega
 have hqs : q ≤ s.size := by omega
 have HQ := hide hq
 clear hq
 go_wp2
 refine bodyPost_end (res0 rfl _ _) rfl ?_
 exact ⟨rfl, (grown_but (gdn w _) _).trans (gsc _ ⟨b, 2, none⟩ _), q, by rw [uh HQ]; exact uh HD1, ((uh H).drewN _).to q hqs⟩
theorem thing_39 (w : World) (b : Nat) (t : TypeId) (tl : List Value) (s : ByteArray) (p d : Nat) (wh : Nat) (r : List UInt8) (h : Rdr w b t tl s p d 0 0) (hm : s.data.toList.drop p = 39 :: r) (hwh : wh ≤ 4) (hqt : quot wh = false) :
 Calls Tryz.prog 72 #[.pointer (some ⟨b, 0, none⟩), .int .i64 (wh : Int)] w fun en w' => ThEnd w b t tl s d (match r.dropWhile (fun x => x != 39) with
  | [] => .err 11 (39 :: r)
  | _ :: r' => .ok r') en w' := by
 obtain ⟨hlt, hd1⟩ := drop_step hm
 have hlen := h.len
 have hdle := h.dle
 have H := hide h
 have HM := hide hm
 have HD1 := hide hd1
 have HS0 := hide (sees_at h hm 92 false (by decide))
 have HS1 := hide (sees_at h hm 34 false (by decide))
 have HS2 := hide (sees_at h hm 39 true (by decide))
 have hqv : (!quot wh) = true := by rw [hqt]; rfl
 have hsq := fun k => single_quotes (w.drewN k) b t tl s p d r (h.drewN k) hm
 obtain ⟨T, hTe⟩ : ∃ x, x = (match r.dropWhile (fun x => x != 39) with
  | [] => Rs.err 11 (39 :: r)
  | _ :: r' => .ok r') := ⟨_, rfl⟩
 rw [← hTe]
 have HQS : Hid (∀ k, Calls Tryz.prog 92 #[.pointer (some ⟨b, 0, none⟩)] (w.drewN k) fun en w' => ThEnd (w.drewN k) b t tl s d T en w') := hide (fun k => by rw [hTe]; exact hsq k)
 clear hqt hTe hsq
 have c1 := h.c1
 have c2 := h.c2
 have z2 := h.blk.frozen 2
 clear h hm hd1
 go_enter Tryz.func72, Tryz.ntmps72
 go_wp2_with fail
 refine (uh HS0 0).mono ?_
 rintro en w1 ⟨rfl, k1, hw1⟩
 subst hw1
 go_wp2_with fail
 refine (uh HS1 k1).mono ?_
 rintro en w2 ⟨rfl, k2, hw2⟩
 subst hw2
 go_wp2_with fail
 refine (uh HS2 k2).mono ?_
 rintro en w3 ⟨rfl, k3, hw3⟩
 subst hw3
 go_wp2_with fail
 refine (single_any wh hwh _).mono ?_
 rintro en w9 ⟨rfl, hw9⟩
 have hw8 := hw9.symm
 subst hw8
 clear hw9
 rw [hqv]
 go_wp2_with fail
 refine (uh HQS k3).mono ?_
 intro en w9 h9
 obtain ⟨he, g9, h9⟩ := h9
 subst he
 have G9 := hide g9
 have H9 := hide h9
 clear g9 h9
 go_wp2
 refine bodyPost_end (res0 rfl _ _) rfl ?_
 exact ⟨rfl, (grown_but (gdn w _) _).trans (uh G9), uh H9⟩
theorem thing_36a (w : World) (b : Nat) (t : TypeId) (tl : List Value) (s : ByteArray) (p d : Nat) (wh F : Nat) (r : List UInt8) (h : Rdr w b t tl s p d 0 0) (hm : s.data.toList.drop p = 36 :: r) (hwh : wh ≤ 4) (hh : r.head? = some 123) {N : Nat} (hT : MT N) (hN : s.size ≤ p + 1 + N) (hF : 3 * (s.size - p) + 2 ≤ F) :
 Calls Tryz.prog 72 #[.pointer (some ⟨b, 0, none⟩), .int .i64 (wh : Int)] w fun en w' => ThEnd w b t tl s d (cls F (r.drop 1) (36 :: r) 125 (if quot wh then 3 else 2) d) en w' := by
 obtain ⟨hlt, hd1⟩ := drop_step hm
 have hlen := h.len
 have hdle := h.dle
 have H := hide h
 have HM := hide hm
 have HD1 := hide hd1
 have HS0 := hide (sees_at h hm 92 false (by decide))
 have HS1 := hide (sees_at h hm 34 false (by decide))
 have HS2 := hide (sees_at h hm 39 false (by decide))
 have HS3 := hide (sees_two h hm 36 123 true (by rw [hh]; rfl))
 obtain ⟨wh2, hw2⟩ : ∃ x : Nat, x = (if quot wh then 3 else 2) := ⟨_, rfl⟩
 have HBR : Hid (∀ w, Calls Tryz.prog 93 #[.int .i64 (wh : Int)] w fun e w' => e = .returned (.int .i64 (wh2 : Int)) ∧ w' = w) := hide (fun w => by rw [hw2]; exact brace_any wh hwh w)
 have hwh2 : wh2 ≤ 4 := by rw [hw2]; split <;> decide
 rw [← hw2]
 clear hw2
 have hrl : r.length = s.size - (p + 1) := by rw [← hd1, List.length_drop, data_len]
 have hr0 : 0 < r.length := by rw [head_cons hh]; simp
 clear hh
 have c1 := h.c1
 have c2 := h.c2
 have z2 := h.blk.frozen 2
 clear h hm hd1
 go_enter Tryz.func72, Tryz.ntmps72
 go_wp2_with fail
 refine (uh HS0 0).mono ?_
 rintro en w1 ⟨rfl, k1, hw1⟩
 subst hw1
 go_wp2_with fail
 refine (uh HS1 k1).mono ?_
 rintro en w2 ⟨rfl, k2, hw2⟩
 subst hw2
 go_wp2_with fail
 refine (uh HS2 k2).mono ?_
 rintro en w3 ⟨rfl, k3, hw3⟩
 subst hw3
 go_wp2_with fail
 refine (uh HS3 k3).mono ?_
 rintro en w4 ⟨rfl, k4, hw4⟩
 subst hw4
 go_wp2_with fail
 refine (uh HBR _).mono ?_
 rintro en w8 ⟨rfl, hw8⟩
 have hw7 := hw8.symm
 subst hw7
 clear hw8
 go_wp2_with fail
 refine (around_any hT (w.drewN k4) b t tl s p d 2 wh2 F ⟨#[36, 123]⟩ 125 ((uh H).drewN _) rfl (by omega) (by omega) hwh2 (by omega) _ rfl _ rfl).mono ?_
 intro en w9 h9
 obtain ⟨he, g9, h9⟩ := h9
 subst he
 have G9 := hide g9
 have H9 := hide h9
 clear g9 h9
 go_wp2
 refine bodyPost_end (res0 rfl _ _) rfl ?_
 refine ⟨rfl, (grown_but (gdn w _) _).trans (uh G9), ?_⟩
 have h9 := uh H9
 rw [uh HM] at h9
 rw [show p + 2 = p + 1 + 1 from rfl, ← List.drop_drop, uh HD1] at h9
 exact h9
theorem thing_36b (w : World) (b : Nat) (t : TypeId) (tl : List Value) (s : ByteArray) (p d : Nat) (wh F : Nat) (r : List UInt8) (h : Rdr w b t tl s p d 0 0) (hm : s.data.toList.drop p = 36 :: r) (hh : r.head? = some 40) {N : Nat} (hT : MT N) (hN : s.size ≤ p + 1 + N) (hF : 3 * (s.size - p) + 2 ≤ F) :
 Calls Tryz.prog 72 #[.pointer (some ⟨b, 0, none⟩), .int .i64 (wh : Int)] w fun en w' => ThEnd w b t tl s d (cls F (r.drop 1) r 41 4 d) en w' := by
 obtain ⟨hlt, hd1⟩ := drop_step hm
 have hlen := h.len
 have hdle := h.dle
 have H := hide h
 have HM := hide hm
 have HD1 := hide hd1
 have HS0 := hide (sees_at h hm 92 false (by decide))
 have HS1 := hide (sees_at h hm 34 false (by decide))
 have HS2 := hide (sees_at h hm 39 false (by decide))
 have HS3 := hide (sees_two h hm 36 123 false (by rw [hh]; decide))
 have HS4 := hide (sees_two h hm 36 40 true (by rw [hh]; rfl))
 have hrl : r.length = s.size - (p + 1) := by rw [← hd1, List.length_drop, data_len]
 have hr0 : 0 < r.length := by rw [head_cons hh]; simp
 clear hh
 have c1 := h.c1
 have c2 := h.c2
 have z2 := h.blk.frozen 2
 clear h hm hd1
 go_enter Tryz.func72, Tryz.ntmps72
 go_wp2_with fail
 refine (uh HS0 0).mono ?_
 rintro en w1 ⟨rfl, k1, hw1⟩
 subst hw1
 go_wp2_with fail
 refine (uh HS1 k1).mono ?_
 rintro en w2 ⟨rfl, k2, hw2⟩
 subst hw2
 go_wp2_with fail
 refine (uh HS2 k2).mono ?_
 rintro en w3 ⟨rfl, k3, hw3⟩
 subst hw3
 go_wp2_with fail
 refine (uh HS3 k3).mono ?_
 rintro en w4 ⟨rfl, k4, hw4⟩
 subst hw4
 go_wp2_with fail
 refine (uh HS4 k4).mono ?_
 rintro en w5 ⟨rfl, k5, hw5⟩
 subst hw5
 obtain ⟨q, hq⟩ : ∃ x, x = p + 1 := ⟨_, rfl⟩
 have hwq : IntKind.i64.wrap ((p : Int) + 1) = (q : Int) := by rw [IntKind.wrap_i64]; omega
 have HQ := hide hq
 have hqp : p < q ∧ q < s.size ∧ s.size ≤ q + 1 + N ∧ 3 * (s.size - (q + 1)) + 5 ≤ F := by omega
 clear hq
 go_wp2_with fail
 refine (around_any hT _ b t tl s q d 1 4 F ⟨#[40]⟩ 41 (((uh H).drewN _).to q (by omega)) rfl (by omega) (by omega) (by decide) (by omega) _ rfl _ rfl).mono ?_
 intro en w9 h9
 obtain ⟨he, g9, h9⟩ := h9
 subst he
 have G9 := hide g9
 have H9 := hide h9
 clear g9 h9
 go_wp2
 refine bodyPost_end (res0 rfl _ _) rfl ?_
 refine ⟨rfl, (grown_but (gdn w _) _).trans ((gsc _ ⟨b, 2, none⟩ _).trans (uh G9)), ?_⟩
 have h9 := uh H9
 rw [← List.drop_drop, uh HQ, uh HD1] at h9
 exact h9
theorem thing_36c (w : World) (b : Nat) (t : TypeId) (tl : List Value) (s : ByteArray) (p d : Nat) (wh : Nat) (r : List UInt8) (h : Rdr w b t tl s p d 0 0) (hm : s.data.toList.drop p = 36 :: r) (hh1 : r.head? ≠ some 123) (hh2 : r.head? ≠ some 40) :
 Calls Tryz.prog 72 #[.pointer (some ⟨b, 0, none⟩), .int .i64 (wh : Int)] w fun en w' => ThEnd w b t tl s d (.ok r) en w' := by
 obtain ⟨hlt, hd1⟩ := drop_step hm
 have hlen := h.len
 have hdle := h.dle
 have H := hide h
 have HM := hide hm
 have HD1 := hide hd1
 have HS0 := hide (sees_at h hm 92 false (by decide))
 have HS1 := hide (sees_at h hm 34 false (by decide))
 have HS2 := hide (sees_at h hm 39 false (by decide))
 have HS3 := hide (sees_two h hm 36 123 false (by simp [hh1]))
 have HS4 := hide (sees_two h hm 36 40 false (by simp [hh2]))
 have HS5 := hide (sees_at h hm 40 false (by decide))
 have HS6 := hide (sees_at h hm 96 false (by decide))
 clear hh1 hh2
 have c1 := h.c1
 have c2 := h.c2
 have z2 := h.blk.frozen 2
 clear h hm hd1
 go_enter Tryz.func72, Tryz.ntmps72
 go_wp2_with fail
 refine (uh HS0 0).mono ?_
 rintro en w1 ⟨rfl, k1, hw1⟩
 subst hw1
 go_wp2_with fail
 refine (uh HS1 k1).mono ?_
 rintro en w2 ⟨rfl, k2, hw2⟩
 subst hw2
 go_wp2_with fail
 refine (uh HS2 k2).mono ?_
 rintro en w3 ⟨rfl, k3, hw3⟩
 subst hw3
 go_wp2_with fail
 refine (uh HS3 k3).mono ?_
 rintro en w4 ⟨rfl, k4, hw4⟩
 subst hw4
 go_wp2_with fail
 refine (uh HS4 k4).mono ?_
 rintro en w5 ⟨rfl, k5, hw5⟩
 subst hw5
 go_wp2_with fail
 refine (uh HS5 k5).mono ?_
 rintro en w6 ⟨rfl, k6, hw6⟩
 subst hw6
 go_wp2_with fail
 refine (uh HS6 k6).mono ?_
 rintro en w7 ⟨rfl, k7, hw7⟩
 subst hw7
 obtain ⟨q, hq⟩ : ∃ x, x = p + 1 := ⟨_, rfl⟩
 have hwq : IntKind.i64.wrap ((p : Int) + 1) = (q : Int) := by rw [IntKind.wrap_i64]; omega
 have hqs : q ≤ s.size := by omega
 have HQ := hide hq
 clear hq
 go_wp2
 refine bodyPost_end (res0 rfl _ _) rfl ?_
 exact ⟨rfl, (grown_but (gdn w _) _).trans (gsc _ ⟨b, 2, none⟩ _), q, by rw [uh HQ]; exact uh HD1, ((uh H).drewN _).to q hqs⟩
theorem thing_40 (w : World) (b : Nat) (t : TypeId) (tl : List Value) (s : ByteArray) (p d : Nat) (wh F : Nat) (r : List UInt8) (h : Rdr w b t tl s p d 0 0) (hm : s.data.toList.drop p = 40 :: r) (h4 : wh = 4) {N : Nat} (hT : MT N) (hN : s.size ≤ p + 1 + N) (hF : 3 * (s.size - p) + 2 ≤ F) :
 Calls Tryz.prog 72 #[.pointer (some ⟨b, 0, none⟩), .int .i64 (wh : Int)] w fun en w' => ThEnd w b t tl s d (cls F r (40 :: r) 41 4 d) en w' := by
 obtain ⟨hlt, hd1⟩ := drop_step hm
 have hlen := h.len
 have hdle := h.dle
 have H := hide h
 have HM := hide hm
 have HD1 := hide hd1
 have HS0 := hide (sees_at h hm 92 false (by decide))
 have HS1 := hide (sees_at h hm 34 false (by decide))
 have HS2 := hide (sees_at h hm 39 false (by decide))
 have HS3 := hide (sees_two h hm 36 123 false (by simp))
 have HS4 := hide (sees_two h hm 36 40 false (by simp))
 have HS5 := hide (sees_at h hm 40 true (by decide))
 have h4b : ((wh : Int) == 4) = true := by rw [beq_iff_eq]; omega
 clear h4
 have c1 := h.c1
 have c2 := h.c2
 have z2 := h.blk.frozen 2
 clear h hm hd1
 go_enter Tryz.func72, Tryz.ntmps72
 go_wp2_with fail
 refine (uh HS0 0).mono ?_
 rintro en w1 ⟨rfl, k1, hw1⟩
 subst hw1
 go_wp2_with fail
 refine (uh HS1 k1).mono ?_
 rintro en w2 ⟨rfl, k2, hw2⟩
 subst hw2
 go_wp2_with fail
 refine (uh HS2 k2).mono ?_
 rintro en w3 ⟨rfl, k3, hw3⟩
 subst hw3
 go_wp2_with fail
 refine (uh HS3 k3).mono ?_
 rintro en w4 ⟨rfl, k4, hw4⟩
 subst hw4
 go_wp2_with fail
 refine (uh HS4 k4).mono ?_
 rintro en w5 ⟨rfl, k5, hw5⟩
 subst hw5
 go_wp2_with fail
 refine (uh HS5 k5).mono ?_
 rintro en w6 ⟨rfl, k6, hw6⟩
 subst hw6
 go_wp2_with fail
 refine (around_any hT (w.drewN k6) b t tl s p d 1 4 F ⟨#[40]⟩ 41 ((uh H).drewN _) rfl (by omega) (by omega) (by decide) (by omega) _ rfl _ rfl).mono ?_
 intro en w9 h9
 obtain ⟨he, g9, h9⟩ := h9
 subst he
 have G9 := hide g9
 have H9 := hide h9
 clear g9 h9
 go_wp2
 refine bodyPost_end (res0 rfl _ _) rfl ?_
 refine ⟨rfl, (grown_but (gdn w _) _).trans (uh G9), ?_⟩
 have h9 := uh H9
 rw [uh HM] at h9
 rw [uh HD1] at h9
 exact h9
theorem thing_40out (w : World) (b : Nat) (t : TypeId) (tl : List Value) (s : ByteArray) (p d : Nat) (wh : Nat) (r : List UInt8) (h : Rdr w b t tl s p d 0 0) (hm : s.data.toList.drop p = 40 :: r) (h4 : wh ≠ 4) :
 Calls Tryz.prog 72 #[.pointer (some ⟨b, 0, none⟩), .int .i64 (wh : Int)] w fun en w' => ThEnd w b t tl s d (.ok r) en w' := by
 obtain ⟨hlt, hd1⟩ := drop_step hm
 have hlen := h.len
 have hdle := h.dle
 have H := hide h
 have HM := hide hm
 have HD1 := hide hd1
 have HS0 := hide (sees_at h hm 92 false (by decide))
 have HS1 := hide (sees_at h hm 34 false (by decide))
 have HS2 := hide (sees_at h hm 39 false (by decide))
 have HS3 := hide (sees_two h hm 36 123 false (by simp))
 have HS4 := hide (sees_two h hm 36 40 false (by simp))
 have HS5 := hide (sees_at h hm 40 true (by decide))
 have HS6 := hide (sees_at h hm 96 false (by decide))
 have h4b : ((wh : Int) == 4) = false := by rw [beq_eq_false_iff_ne]; omega
 clear h4
 have c1 := h.c1
 have c2 := h.c2
 have z2 := h.blk.frozen 2
 clear h hm hd1
 go_enter Tryz.func72, Tryz.ntmps72
 go_wp2_with fail
 refine (uh HS0 0).mono ?_
 rintro en w1 ⟨rfl, k1, hw1⟩
 subst hw1
 go_wp2_with fail
 refine (uh HS1 k1).mono ?_
 rintro en w2 ⟨rfl, k2, hw2⟩
 subst hw2
 go_wp2_with fail
 refine (uh HS2 k2).mono ?_
 rintro en w3 ⟨rfl, k3, hw3⟩
 subst hw3
 go_wp2_with fail
 refine (uh HS3 k3).mono ?_
 rintro en w4 ⟨rfl, k4, hw4⟩
 subst hw4
 go_wp2_with fail
 refine (uh HS4 k4).mono ?_
 rintro en w5 ⟨rfl, k5, hw5⟩
 subst hw5
 go_wp2_with fail
 refine (uh HS5 k5).mono ?_
 rintro en w6 ⟨rfl, k6, hw6⟩
 subst hw6
 go_wp2_with fail
 refine (uh HS6 k6).mono ?_
 rintro en w7 ⟨rfl, k7, hw7⟩
 subst hw7
 obtain ⟨q, hq⟩ : ∃ x, x = p + 1 := ⟨_, rfl⟩
 have hwq : IntKind.i64.wrap ((p : Int) + 1) = (q : Int) := by rw [IntKind.wrap_i64]; omega
 have hqs : q ≤ s.size := by omega
 have HQ := hide hq
 clear hq
 go_wp2
 refine bodyPost_end (res0 rfl _ _) rfl ?_
 exact ⟨rfl, (grown_but (gdn w _) _).trans (gsc _ ⟨b, 2, none⟩ _), q, by rw [uh HQ]; exact uh HD1, ((uh H).drewN _).to q hqs⟩
theorem thing_96 (w : World) (b : Nat) (t : TypeId) (tl : List Value) (s : ByteArray) (p d : Nat) (wh : Nat) (r : List UInt8) (h : Rdr w b t tl s p d 0 0) (hm : s.data.toList.drop p = 96 :: r) :
 Calls Tryz.prog 72 #[.pointer (some ⟨b, 0, none⟩), .int .i64 (wh : Int)] w fun en w' => ThEnd w b t tl s d (.err 10 (96 :: r)) en w' := by
 obtain ⟨hlt, hd1⟩ := drop_step hm
 have hlen := h.len
 have hdle := h.dle
 have H := hide h
 have HM := hide hm
 have HD1 := hide hd1
 have HS0 := hide (sees_at h hm 92 false (by decide))
 have HS1 := hide (sees_at h hm 34 false (by decide))
 have HS2 := hide (sees_at h hm 39 false (by decide))
 have HS3 := hide (sees_two h hm 36 123 false (by simp))
 have HS4 := hide (sees_two h hm 36 40 false (by simp))
 have HS5 := hide (sees_at h hm 40 false (by decide))
 have HS6 := hide (sees_at h hm 96 true (by decide))
 have c1 := h.c1
 have c2 := h.c2
 have z2 := h.blk.frozen 2
 clear h hm hd1
 go_enter Tryz.func72, Tryz.ntmps72
 go_wp2_with fail
 refine (uh HS0 0).mono ?_
 rintro en w1 ⟨rfl, k1, hw1⟩
 subst hw1
 go_wp2_with fail
 refine (uh HS1 k1).mono ?_
 rintro en w2 ⟨rfl, k2, hw2⟩
 subst hw2
 go_wp2_with fail
 refine (uh HS2 k2).mono ?_
 rintro en w3 ⟨rfl, k3, hw3⟩
 subst hw3
 go_wp2_with fail
 refine (uh HS3 k3).mono ?_
 rintro en w4 ⟨rfl, k4, hw4⟩
 subst hw4
 go_wp2_with fail
 refine (uh HS4 k4).mono ?_
 rintro en w5 ⟨rfl, k5, hw5⟩
 subst hw5
 go_wp2_with fail
 refine (uh HS5 k5).mono ?_
 rintro en w6 ⟨rfl, k6, hw6⟩
 subst hw6
 go_wp2_with fail
 refine (uh HS6 k6).mono ?_
 rintro en w7 ⟨rfl, k7, hw7⟩
 subst hw7
 go_wp2_with fail
 refine (fail_any 10 (p : Int) ((uh H).drewN _)).mono ?_
 rintro en w9 ⟨rfl, h9, g9⟩
 have G9 := hide g9
 have H9 := hide h9
 clear g9 h9
 go_wp2
 refine bodyPost_end (res0 rfl _ _) rfl ?_
 refine ⟨rfl, (grown_but (gdn w _) _).trans (uh G9), p, d, by decide, ?_⟩
 rw [← uh HM, place_of (by omega)]
 exact uh H9
theorem thing_else (w : World) (b : Nat) (t : TypeId) (tl : List Value) (s : ByteArray) (p d : Nat) (wh : Nat) (c : UInt8) (r : List UInt8) (h : Rdr w b t tl s p d 0 0) (hm : s.data.toList.drop p = c :: r) (n1 : c ≠ 92) (n2 : c ≠ 34) (n3 : c ≠ 39) (n4 : c ≠ 36) (n5 : c ≠ 40) (n6 : c ≠ 96) :
 Calls Tryz.prog 72 #[.pointer (some ⟨b, 0, none⟩), .int .i64 (wh : Int)] w fun en w' => ThEnd w b t tl s d (.ok r) en w' := by
 obtain ⟨hlt, hd1⟩ := drop_step hm
 have hlen := h.len
 have hdle := h.dle
 have H := hide h
 have HM := hide hm
 have HD1 := hide hd1
 have HS0 := hide (sees_at h hm 92 false (by simpa using n1))
 have HS1 := hide (sees_at h hm 34 false (by simpa using n2))
 have HS2 := hide (sees_at h hm 39 false (by simpa using n3))
 have HS3 := hide (sees_two h hm 36 123 false (by simp [n4]))
 have HS4 := hide (sees_two h hm 36 40 false (by simp [n4]))
 have HS5 := hide (sees_at h hm 40 false (by simpa using n5))
 have HS6 := hide (sees_at h hm 96 false (by simpa using n6))
 clear n1 n2 n3 n4 n5 n6
 have c1 := h.c1
 have c2 := h.c2
 have z2 := h.blk.frozen 2
 clear h hm hd1
 go_enter Tryz.func72, Tryz.ntmps72
 go_wp2_with fail
 refine (uh HS0 0).mono ?_
 rintro en w1 ⟨rfl, k1, hw1⟩
 subst hw1
 go_wp2_with fail
 refine (uh HS1 k1).mono ?_
 rintro en w2 ⟨rfl, k2, hw2⟩
 subst hw2
 go_wp2_with fail
 refine (uh HS2 k2).mono ?_
 rintro en w3 ⟨rfl, k3, hw3⟩
 subst hw3
 go_wp2_with fail
 refine (uh HS3 k3).mono ?_
 rintro en w4 ⟨rfl, k4, hw4⟩
 subst hw4
 go_wp2_with fail
 refine (uh HS4 k4).mono ?_
 rintro en w5 ⟨rfl, k5, hw5⟩
 subst hw5
 go_wp2_with fail
 refine (uh HS5 k5).mono ?_
 rintro en w6 ⟨rfl, k6, hw6⟩
 subst hw6
 go_wp2_with fail
 refine (uh HS6 k6).mono ?_
 rintro en w7 ⟨rfl, k7, hw7⟩
 subst hw7
 obtain ⟨q, hq⟩ : ∃ x, x = p + 1 := ⟨_, rfl⟩
 have hwq : IntKind.i64.wrap ((p : Int) + 1) = (q : Int) := by rw [IntKind.wrap_i64]; omega
 have hqs : q ≤ s.size := by omega
 have HQ := hide hq
 clear hq
 go_wp2
 refine bodyPost_end (res0 rfl _ _) rfl ?_
 exact ⟨rfl, (grown_but (gdn w _) _).trans (gsc _ ⟨b, 2, none⟩ _), q, by rw [uh HQ]; exact uh HD1, ((uh H).drewN _).to q hqs⟩
theorem thing_step {M : Nat} (hT : ∀ N, N < M → MT N) : MT M := by
 intro w b t tl s p d wh F h hp hN hwh hF wv hwv
 subst hwv
 obtain ⟨F, rfl⟩ : ∃ G, F = G + 1 := ⟨F - 1, by omega⟩
 have hm := drop_at hp
 rw [hm, thg_succ]
 obtain ⟨c, hc⟩ : ∃ x, x = s[p] := ⟨_, rfl⟩
 obtain ⟨r, hr⟩ : ∃ x, x = s.data.toList.drop (p + 1) := ⟨_, rfl⟩
 rw [← hc, ← hr] at hm ⊢
 have hMT := hT (M - 1) (by omega)
 by_cases e1 : c = 92
 ·subst e1
  rw [if_pos rfl]
  exact thing_92 w b t tl s p d wh r h hm
 rw [if_neg e1]
 by_cases e2 : c = 34
 ·subst e2
  rw [if_pos rfl]
  by_cases h1 : wh = 1
  ·rw [if_pos h1]
   exact thing_34in w b t tl s p d wh r h hm h1
  ·rw [if_neg h1]
   exact thing_34 w b t tl s p d wh F r h hm h1 hMT (by omega) (by omega)
 rw [if_neg e2]
 by_cases e3 : c = 39
 ·subst e3
  rw [if_pos rfl]
  rcases Bool.eq_false_or_eq_true (quot wh) with h1 | h1
  ·rw [h1, if_pos rfl]
   exact thing_39in w b t tl s p d wh r h hm hwh h1
  ·rw [h1, if_neg (by decide)]
   exact thing_39 w b t tl s p d wh r h hm hwh h1
 rw [if_neg e3]
 by_cases e4 : c = 36
 ·subst e4
  rw [if_pos rfl]
  by_cases h1 : r.head? = some 123
  ·rw [if_pos h1]
   exact thing_36a w b t tl s p d wh F r h hm hwh h1 hMT (by omega) (by omega)
  ·rw [if_neg h1]
   by_cases h2 : r.head? = some 40
   ·rw [if_pos h2]
    exact thing_36b w b t tl s p d wh F r h hm h2 hMT (by omega) (by omega)
   ·rw [if_neg h2]
    exact thing_36c w b t tl s p d wh r h hm h1 h2
 rw [if_neg e4]
 by_cases e5 : c = 40
 ·subst e5
  rw [if_pos rfl]
  by_cases h1 : wh = 4
  ·rw [if_pos h1]
   exact thing_40 w b t tl s p d wh F r h hm h1 hMT (by omega) (by omega)
  ·rw [if_neg h1]
   exact thing_40out w b t tl s p d wh r h hm h1
 rw [if_neg e5]
 by_cases e6 : c = 96
 ·subst e6
  rw [if_pos rfl]
  exact thing_96 w b t tl s p d wh r h hm
 rw [if_neg e6]
 exact thing_else w b t tl s p d wh c r h hm e1 e2 e3 e4 e5 e6
theorem thing_all (M : Nat) : MT M := by
 induction M using Nat.strongRecOn with
 | ind M ih => exact thing_step ih
def pieceS (s : ByteArray) (a : Int) (q : Bool) : Int × Int × Int :=
 if a < 0 ∨ (s.size : Int) ≤ a then (0, 0, 1) else match thg (3 * s.size + 3) (s.data.toList.drop a.toNat) (if q then 1 else 0) 0 with
  | .ok r => (((s.size - r.length : Nat) : Int), 0, 0)
  | .err e m => (0, ((s.size - m.length : Nat) : Int), e)
theorem new_rdr (w : World) (s : ByteArray) (p : Nat) (hp : p ≤ s.size) (hs : s.size ≤ 100000) :
 Rdr (w.alloc (.cells #[.int .i64 0, .string s, .int .i64 (p : Int), .int .i64 0, .int .i64 0] 67)) w.heap.size 67 [] s p 0 0 0 := ⟨Blk.new w _ _, hp, hs, by omega⟩
theorem place_left {s : ByteArray} {q : Nat} {r : List UInt8} (h : s.data.toList.drop q = r) (hq : q ≤ s.size) : s.size - r.length = q := by rw [← h]; exact place_of hq
theorem piece_any (s : ByteArray) (a : Int) (q : Bool) (w : World) (hs : s.size ≤ 100000) :
 Calls Tryz.prog 155 #[.string s, .int .i64 a, .bool q] w fun e w' => e = .returned (.tuple #[.int .i64 (pieceS s a q).1, .int .i64 (pieceS s a q).2.1, .int .i64 (pieceS s a q).2.2]) ∧ Below w.heap.size w w' := by
 by_cases h0 : a < 0
 ·have hp : pieceS s a q = (0, 0, 1) := by unfold pieceS; rw [if_pos (.inl h0)]
  rw [hp]
  clear hp
  go_enter Tryz.func155, Tryz.ntmps155
  go_wp2
  go_ret3
  exact ⟨rfl, Below.refl _ _⟩
 by_cases h1 : (s.size : Int) ≤ a
 ·have hp : pieceS s a q = (0, 0, 1) := by unfold pieceS; rw [if_pos (.inr h1)]
  rw [hp]
  clear hp
  go_enter Tryz.func155, Tryz.ntmps155
  go_wp2
  go_ret3
  exact ⟨rfl, Below.refl _ _⟩
 obtain ⟨p, rfl⟩ : ∃ p : Nat, a = (p : Int) := ⟨a.toNat, by omega⟩
 have hpl : p < s.size := by omega
 have hpe : pieceS s (p : Int) q = match thg (3 * s.size + 3) (s.data.toList.drop p) (if q then 1 else 0) 0 with
  | .ok r => (((s.size - r.length : Nat) : Int), 0, 0)
  | .err e m => (0, ((s.size - m.length : Nat) : Int), e) := by
  unfold pieceS
  rw [if_neg (by omega)]
  simp
 have hR := new_rdr w s p (by omega) hs
 obtain ⟨wh, hwh⟩ : ∃ x : Nat, x = (if q then 1 else 0) := ⟨_, rfl⟩
 rw [← hwh] at hpe
 have HTH := hide (thing_all s.size _ _ _ _ s p 0 wh (3 * s.size + 3) hR hpl (by omega) (by rw [hwh]; split <;> decide) (by omega))
 obtain ⟨T, hT⟩ : ∃ x, x = thg (3 * s.size + 3) (s.data.toList.drop p) wh 0 := ⟨_, rfl⟩
 rw [← hT] at HTH hpe
 have HPE := hide hpe
 have HWH := hide hwh
 clear hpe hR hT hwh
 cases q
 ·have hw0 : wh = 0 := uh HWH
  subst hw0
  go_enter Tryz.func155, Tryz.ntmps155
  go_wp2_with fail
  refine (uh HTH 0 rfl).mono ?_
  intro en w5 h5
  obtain ⟨he, g5, h5⟩ := h5
  subst he
  have HB5 := hide (((Below.refl _ w).alloc (ler _) _).trans (below_some g5 (by simp)))
  have hpe := uh HPE
  rcases T with r | ⟨e, m⟩
  ·obtain ⟨q1, hq1, hr5⟩ := h5
   have hpl5 := place_left hq1 hr5.le
   simp only [] at hpe
   rw [hpl5] at hpe
   have HPE2 := hide hpe
   have c2 := hr5.c2
   have c3 := hr5.c3
   clear hpe hq1 hr5 hpl5 g5
   go_wp2
   go_ret3
   rw [uh HPE2]
   exact ⟨rfl, uh HB5⟩
  ·obtain ⟨q1, d1, he0, hr5⟩ := h5
   simp only [] at hpe
   have HPE2 := hide hpe
   obtain ⟨bb, hbb⟩ : ∃ x : Int, x = ((s.size - m.length : Nat) : Int) := ⟨_, rfl⟩
   rw [← hbb] at HPE2 hr5
   have c3 := hr5.c3
   have c4 := hr5.c4
   have he1 : (e == 0) = false := by simpa using he0
   clear hpe hr5 g5 hbb he0
   go_wp2_with fail
   go_quiet (fail)
   go_wp2
   go_ret3
   rw [uh HPE2]
   exact ⟨rfl, (uh HB5).trans ((below_of_grown (gdn w5 _)).mono (uh HB5).size)⟩
 ·have hw0 : wh = 1 := uh HWH
  subst hw0
  go_enter Tryz.func155, Tryz.ntmps155
  go_wp2_with fail
  refine (uh HTH 1 rfl).mono ?_
  intro en w5 h5
  obtain ⟨he, g5, h5⟩ := h5
  subst he
  have HB5 := hide (((Below.refl _ w).alloc (ler _) _).trans (below_some g5 (by simp)))
  have hpe := uh HPE
  rcases T with r | ⟨e, m⟩
  ·obtain ⟨q1, hq1, hr5⟩ := h5
   have hpl5 := place_left hq1 hr5.le
   simp only [] at hpe
   rw [hpl5] at hpe
   have HPE2 := hide hpe
   have c2 := hr5.c2
   have c3 := hr5.c3
   clear hpe hq1 hr5 hpl5 g5
   go_wp2
   go_ret3
   rw [uh HPE2]
   exact ⟨rfl, uh HB5⟩
  ·obtain ⟨q1, d1, he0, hr5⟩ := h5
   simp only [] at hpe
   have HPE2 := hide hpe
   obtain ⟨bb, hbb⟩ : ∃ x : Int, x = ((s.size - m.length : Nat) : Int) := ⟨_, rfl⟩
   rw [← hbb] at HPE2 hr5
   have c3 := hr5.c3
   have c4 := hr5.c4
   have he1 : (e == 0) = false := by simpa using he0
   clear hpe hr5 g5 hbb he0
   go_wp2_with fail
   go_quiet (fail)
   go_wp2
   go_ret3
   rw [uh HPE2]
   exact ⟨rfl, (uh HB5).trans ((below_of_grown (gdn w5 _)).mono (uh HB5).size)⟩
theorem BA_toList (l : List UInt8) : (BA l).toList = l := by rw [ByteArray.toList_eq]; rfl
mutual
def PAt (w : World) (A : Nat → Prop) (g o : Nat) : Prt → Prop
 | .mk k t q op c s => w.cell? ⟨g, o, none⟩ = some (.int .i64 k) ∧ w.cell? ⟨g, o + 1, none⟩ = some (.string (BA t)) ∧ w.cell? ⟨g, o + 2, none⟩ = some (.bool q) ∧ w.cell? ⟨g, o + 3, none⟩ = some (.int .i64 op) ∧ w.cell? ⟨g, o + 4, none⟩ = some (.bool c) ∧
   ∃ ad cap, w.cell? ⟨g, o + 5, none⟩ = some (.slice ad s.length cap) ∧ s.length ≤ 9223372036854775807 ∧ (s = [] ∨ ∃ g' o', ad = some ⟨g', o', none⟩ ∧ A g' ∧ PsAt w A g' o' s)
def PsAt (w : World) (A : Nat → Prop) (g o : Nat) : List Prt → Prop
 | [] => True
 | p :: r => PAt w A g o p ∧ PsAt w A g (o + 6) r
end
def WAt (w : World) (A : Nat → Prop) (v : Value) (s : List Prt) : Prop :=
 ∃ ad cap, v = .slice ad s.length cap ∧ s.length ≤ 9223372036854775807 ∧ (s = [] ∨ ∃ g o, ad = some ⟨g, o, none⟩ ∧ A g ∧ PsAt w A g o s)
theorem PAt_mk (w : World) (A : Nat → Prop) (g o : Nat) (k t q op c s) : PAt w A g o (.mk k t q op c s) ↔ (w.cell? ⟨g, o, none⟩ = some (.int .i64 k) ∧ w.cell? ⟨g, o + 1, none⟩ = some (.string (BA t)) ∧ w.cell? ⟨g, o + 2, none⟩ = some (.bool q) ∧ w.cell? ⟨g, o + 3, none⟩ = some (.int .i64 op) ∧ w.cell? ⟨g, o + 4, none⟩ = some (.bool c) ∧
 ∃ v, w.cell? ⟨g, o + 5, none⟩ = some v ∧ WAt w A v s) := by
 rw [PAt]
 constructor
 ·rintro ⟨h0, h1, h2, h3, h4, ad, cap, h5, h6, h7⟩
  exact ⟨h0, h1, h2, h3, h4, _, h5, ad, cap, rfl, h6, h7⟩
 ·rintro ⟨h0, h1, h2, h3, h4, v, h5, ad, cap, rfl, h6, h7⟩
  exact ⟨h0, h1, h2, h3, h4, ad, cap, h5, h6, h7⟩
theorem PsAt_cons (w : World) (A : Nat → Prop) (g o : Nat) (p : Prt) (r : List Prt) : PsAt w A g o (p :: r) ↔ PAt w A g o p ∧ PsAt w A g (o + 6) r := by rw [PsAt]
theorem PsAt_nil (w : World) (A : Nat → Prop) (g o : Nat) : PsAt w A g o [] := by rw [PsAt]; trivial
theorem wat_nil (w : World) (A : Nat → Prop) (ad : Option Addr) (cap : Nat) : WAt w A (.slice ad 0 cap) [] := ⟨ad, cap, rfl, by simp, .inl rfl⟩
theorem PsAt.get {w : World} {A : Nat → Prop} {g : Nat} : ∀ {l : List Prt} {o i : Nat} {p : Prt}, PsAt w A g o l → l[i]? = some p → PAt w A g (o + i * 6) p
 | x :: r, o, 0, p, h, hi => by
   simp at hi
   subst hi
   have := ((PsAt_cons w A g o x r).1 h).1
   simpa using this
 | x :: r, o, i + 1, p, h, hi => by
   have := PsAt.get (i := i) ((PsAt_cons w A g o x r).1 h).2 (by simpa using hi)
   rw [show o + (i + 1) * 6 = o + 6 + i * 6 by omega]
   exact this
theorem PsAt.of {w : World} {A : Nat → Prop} {g : Nat} : ∀ {l : List Prt} {o : Nat}, (∀ i p, l[i]? = some p → PAt w A g (o + i * 6) p) → PsAt w A g o l
 | [], o, _ => PsAt_nil w A g o
 | x :: r, o, h => (PsAt_cons w A g o x r).2 ⟨by have := h 0 x rfl; simpa using this, PsAt.of (fun i p hi => by have := h (i + 1) p (by simpa using hi); rwa [show o + (i + 1) * 6 = o + 6 + i * 6 by omega] at this)⟩
mutual
theorem PAt.kept {w w' : World} {A B : Nat → Prop} (hk : ∀ k, A k → w'.heap[k]? = w.heap[k]?) (hm : ∀ k, A k → B k) : ∀ {p : Prt} {g o : Nat}, A g → PAt w A g o p → PAt w' B g o p
 | .mk k t q op c s, g, o, hg, h => by
   rw [PAt] at h ⊢
   obtain ⟨h0, h1, h2, h3, h4, ad, cap, h5, h6, h7⟩ := h
   have hc : ∀ j, w'.cell? ⟨g, j, none⟩ = w.cell? ⟨g, j, none⟩ := fun j => World.cell?_of_block (w := w) (a := ⟨g, j, none⟩) (hk g hg)
   refine ⟨(hc _).trans h0, (hc _).trans h1, (hc _).trans h2, (hc _).trans h3, (hc _).trans h4, ad, cap, (hc _).trans h5, h6, ?_⟩
   rcases h7 with h7 | ⟨g', o', h7, h8, h9⟩
   ·exact .inl h7
   ·exact .inr ⟨g', o', h7, hm _ h8, PsAt.kept hk hm h8 h9⟩
theorem PsAt.kept {w w' : World} {A B : Nat → Prop} (hk : ∀ k, A k → w'.heap[k]? = w.heap[k]?) (hm : ∀ k, A k → B k) : ∀ {l : List Prt} {g o : Nat}, A g → PsAt w A g o l → PsAt w' B g o l
 | [], g, o, _, _ => PsAt_nil w' B g o
 | p :: r, g, o, hg, h => (PsAt_cons w' B g o p r).2 ⟨PAt.kept hk hm hg ((PsAt_cons w A g o p r).1 h).1, PsAt.kept hk hm hg ((PsAt_cons w A g o p r).1 h).2⟩
end
theorem WAt.kept {w w' : World} {A B : Nat → Prop} {v : Value} {s : List Prt} (h : WAt w A v s) (hk : ∀ k, A k → w'.heap[k]? = w.heap[k]?) (hm : ∀ k, A k → B k) : WAt w' B v s := by
 obtain ⟨ad, cap, hv, hl, h⟩ := h
 refine ⟨ad, cap, hv, hl, ?_⟩
 rcases h with h | ⟨g, o, h1, h2, h3⟩
 ·exact .inl h
 ·exact .inr ⟨g, o, h1, hm _ h2, PsAt.kept hk hm h2 h3⟩
theorem WAt.below {w w' : World} {A : Nat → Prop} {v : Value} {s : List Prt} {n : Nat} (h : WAt w A v s) (hb : Below n w w') (hn : ∀ k, A k → k < n) : WAt w' A v s :=
 h.kept (fun k hk => hb.block k (hn k hk)) (fun _ h => h)
def PV (w : World) (A : Nat → Prop) (x : Value) (p : Prt) : Prop := ∃ v, x = .agg #[.int .i64 p.kind, .string (BA p.text), .bool p.quote, .int .i64 p.op, .bool p.colon, v] ∧ WAt w A v p.sub
theorem PV.kept {w w' : World} {A B : Nat → Prop} {x : Value} {p : Prt} (h : PV w A x p) (hk : ∀ k, A k → w'.heap[k]? = w.heap[k]?) (hm : ∀ k, A k → B k) : PV w' B x p := by
 obtain ⟨v, hx, h⟩ := h
 exact ⟨v, hx, h.kept hk hm⟩
theorem WAt.part {w : World} {A : Nat → Prop} {ad : Option Addr} {n cap : Nat} {s : List Prt} (h : WAt w A (.slice ad n cap) s) {i : Nat} {p : Prt} (hi : s[i]? = some p) :
 ∃ g o v, ad = some ⟨g, o, none⟩ ∧ A g ∧ w.cell? ⟨g, o + i * 6, none⟩ = some (.int .i64 p.kind) ∧ w.cell? ⟨g, o + i * 6 + 1, none⟩ = some (.string (BA p.text)) ∧ w.cell? ⟨g, o + i * 6 + 2, none⟩ = some (.bool p.quote) ∧
  w.cell? ⟨g, o + i * 6 + 3, none⟩ = some (.int .i64 p.op) ∧ w.cell? ⟨g, o + i * 6 + 4, none⟩ = some (.bool p.colon) ∧ w.cell? ⟨g, o + i * 6 + 5, none⟩ = some v ∧ WAt w A v p.sub := by
 obtain ⟨ad', cap', hv, hl, h⟩ := h
 cases hv
 rcases h with h | ⟨g, o, h1, h2, h3⟩
 ·rw [h] at hi
  simp at hi
 ·obtain ⟨k, t, q, op, c, sub⟩ := p
  obtain ⟨c0, c1, c2, c3, c4, v, c5, hs⟩ := (PAt_mk ..).1 (h3.get hi)
  exact ⟨g, o, v, h1, h2, c0, c1, c2, c3, c4, c5, hs⟩
theorem WAt.len {w : World} {A : Nat → Prop} {v : Value} {s : List Prt} (h : WAt w A v s) : ∃ ad cap, v = .slice ad s.length cap ∧ s.length ≤ 9223372036854775807 := by
 obtain ⟨ad, cap, hv, hl, _⟩ := h
 exact ⟨ad, cap, hv, hl⟩
theorem sub_lt (p : Prt) (l : List Prt) (h : p ∈ l) : SizeOf.sizeOf p.sub < SizeOf.sizeOf l := by
 have := List.sizeOf_lt_of_mem h
 obtain ⟨k, t, q, op, c, s⟩ := p
 have h2 : SizeOf.sizeOf (Prt.mk k t q op c s) = 1 + SizeOf.sizeOf k + SizeOf.sizeOf t + SizeOf.sizeOf q + SizeOf.sizeOf op + SizeOf.sizeOf c + SizeOf.sizeOf s := Prt.mk.sizeOf_spec ..
 show SizeOf.sizeOf s < SizeOf.sizeOf l
 omega
end Go.Proofs.YtojjfdobilkknaaGreatDoor

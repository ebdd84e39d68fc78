/-
  Package word's short.
-/
import Derived.Test.YtodcfgbcigjjfaaDoorWPair
namespace Go.Proofs.YtodcfgbcigjjfaaDoor
open Go.RowKit

theorem nmd_front {l : List UInt8} (h : 0 < frontN l) : nmdN l = frontN l := by unfold nmdN; rw [if_pos h]
theorem nmd_cons {c : UInt8} {r : List UInt8} (h : frontN (c :: r) = 0) : nmdN (c :: r) = if digB (c.toNat : Int) || speB c then 1 else 0 := by unfold nmdN; rw [if_neg (by omega)]
set_option maxRecDepth 20000 in
set_option maxHeartbeats 4000000 in
theorem short_front (k : Nat) (r : List UInt8) (w : World) (b : Nat) (X : Nat → Prop) (ps : List Prt) (he : WEnv w) (hk : k < 6) (hrl : r.length ≤ 5000) (h : LSt w b X ps) (hr : Room ps (r.length + 1)) (hf : 0 < frontN r) :
    Calls Tryd.prog 56 #[.int .i64 (k : Int), .string (BA r), (.func (Fn.func 32) #[.pointer (some ⟨b, 0, none⟩)] #[])] w fun e w' => e = .returned (.int .i64 (nmdN r : Int)) ∧ Adds w b X (addP ps (if nmdN r = 0 then litP [36] true else .mk 2 (r.take (nmdN r)) (allW k) 0 false [])) w' := by
  have r2 := he.r2 k hk
  have h2 := he.two
  have HF := hide (fun W => front_any (BA r) W (by simp; omega))
  simp only [BA_list] at HF
  have HA : Hid (∀ w1 k (t : ByteArray) q, t.size ≤ r.length + 1 → Below w.heap.size w w1 → Calls Tryd.prog 32 #[.pointer (some ⟨b, 0, none⟩), .agg #[.int .i64 k, .string t, .bool q, .int .i64 0, .bool false, .slice none 0 0]] w1 fun e w' => e = .returned (.tuple #[]) ∧ Adds w b X (addP ps (.mk k t.data.toList q 0 false [])) w') := hide (fun w1 k t q ht hb =>
    (add_plain w1 b X ps k t q 0 false (h.below hb) ⟨by have := hr.1; omega, by have := hr.2; omega⟩).mono (fun e w' ⟨h1, h3⟩ => ⟨h1, h3.of_below hb⟩))
  clear he h hr
  have hn := nmd_front hf
  have hle := front_le r
  rw [← hn] at HF hf hle
  obtain ⟨n, hnn⟩ : ∃ n, n = nmdN r := ⟨_, rfl⟩
  rw [← hnn] at HF hf hle ⊢
  have hn0 : ((n : Int) == 0) = false := by rw [beq_eq_false_iff_ne]; omega
  have hn1 : (n : Int) ≤ (r.length : Int) := by omega
  rw [if_neg (by omega)]
  have HX : Hid ((BA r).extract 0 n = BA (r.take n)) := hide (by have := extract_take (BA r) 0 n; simpa using this)
  clear hn hnn
  go_enter Tryd.func56, Tryd.ntmps56
  go_wp2_with fail
  refine (unhide HF _).mono ?_
  rintro e w1 ⟨rfl, hw1⟩
  have hw2 := hw1.symm
  subst hw2
  clear hw1
  go_wp2_with fail
  go_region_with (go_at_call 32; refine (unhide HA _ _ _ _ (by rw [unhide HX]; simp; omega) (below_drew _ 1)).mono ?_; rintro e w2 ⟨rfl, a2⟩)
  go_wp2
  go_ret
  rw [unhide HX] at a2
  exact ⟨rfl, a2⟩

set_option maxRecDepth 20000 in
set_option maxHeartbeats 4000000 in
theorem short_nil (k : Nat) (w : World) (b : Nat) (X : Nat → Prop) (ps : List Prt) (he : WEnv w) (hk : k < 6) (h : LSt w b X ps) (hr : Room ps (([] : List UInt8).length + 1)) :
    Calls Tryd.prog 56 #[.int .i64 (k : Int), .string (BA []), (.func (Fn.func 32) #[.pointer (some ⟨b, 0, none⟩)] #[])] w fun e w' => e = .returned (.int .i64 (nmdN [] : Int)) ∧ Adds w b X (addP ps (if nmdN [] = 0 then litP [36] true else .mk 2 (([] : List UInt8).take (nmdN [])) (allW k) 0 false [])) w' := by
  have r2 := he.r2 k hk
  have h2 := he.two
  have HF := hide (fun W => front_any (BA []) W (by simp))
  simp only [BA_list] at HF
  have HA : Hid (∀ w1 k (t : ByteArray) q, t.size ≤ ([] : List UInt8).length + 1 → Below w.heap.size w w1 → Calls Tryd.prog 32 #[.pointer (some ⟨b, 0, none⟩), .agg #[.int .i64 k, .string t, .bool q, .int .i64 0, .bool false, .slice none 0 0]] w1 fun e w' => e = .returned (.tuple #[]) ∧ Adds w b X (addP ps (.mk k t.data.toList q 0 false [])) w') := hide (fun w1 k t q ht hb =>
    (add_plain w1 b X ps k t q 0 false (h.below hb) ⟨by have := hr.1; omega, by have := hr.2; omega⟩).mono (fun e w' ⟨h1, h3⟩ => ⟨h1, h3.of_below hb⟩))
  clear he h hr
  rw [show frontN [] = 0 from rfl] at HF
  have t2 : (BA []).toList.isEmpty = true := by rw [BA_toList]; rfl
  rw [show nmdN [] = 0 from rfl, if_pos rfl]
  go_enter Tryd.func56, Tryd.ntmps56
  go_wp2_with fail
  refine (unhide HF _).mono ?_
  rintro e w1 ⟨rfl, hw1⟩
  have hw2 := hw1.symm
  subst hw2
  clear hw1
  go_wp2_with fail
  refine (lit_any _ _ _).mono ?_
  rintro e w2 ⟨rfl, b2⟩
  have HB2 := hide b2
  clear b2
  go_wp2_with fail
  refine (unhide HA _ _ _ _ (by show 1 ≤ _; omega) (unhide HB2)).mono ?_
  rintro e w3 ⟨rfl, a3⟩
  go_wp2
  go_ret
  exact ⟨rfl, a3⟩

set_option maxRecDepth 20000 in
set_option maxHeartbeats 4000000 in
theorem short_cons (k : Nat) (c : UInt8) (r' : List UInt8) (w : World) (b : Nat) (X : Nat → Prop) (ps : List Prt) (he : WEnv w) (hk : k < 6) (hrl : (c :: r').length ≤ 5000) (h : LSt w b X ps) (hr : Room ps ((c :: r').length + 1)) (hf0 : frontN (c :: r') = 0) :
    Calls Tryd.prog 56 #[.int .i64 (k : Int), .string (BA (c :: r')), (.func (Fn.func 32) #[.pointer (some ⟨b, 0, none⟩)] #[])] w fun e w' => e = .returned (.int .i64 (nmdN (c :: r') : Int)) ∧ Adds w b X (addP ps (if nmdN (c :: r') = 0 then litP [36] true else .mk 2 ((c :: r').take (nmdN (c :: r'))) (allW k) 0 false [])) w' := by
  have r2 := he.r2 k hk
  have h2 := he.two
  have HF := hide (fun W => front_any (BA (c :: r')) W (by simp at hrl ⊢; omega))
  simp only [BA_list] at HF
  have HA : Hid (∀ w1 k (t : ByteArray) q, t.size ≤ (c :: r').length + 1 → Below w.heap.size w w1 → Calls Tryd.prog 32 #[.pointer (some ⟨b, 0, none⟩), .agg #[.int .i64 k, .string t, .bool q, .int .i64 0, .bool false, .slice none 0 0]] w1 fun e w' => e = .returned (.tuple #[]) ∧ Adds w b X (addP ps (.mk k t.data.toList q 0 false [])) w') := hide (fun w1 k t q ht hb =>
    (add_plain w1 b X ps k t q 0 false (h.below hb) ⟨by have := hr.1; omega, by have := hr.2; omega⟩).mono (fun e w' ⟨h1, h3⟩ => ⟨h1, h3.of_below hb⟩))
  clear he h hr
  rw [hf0] at HF
  have t2 : (BA (c :: r')).toList.isEmpty = false := by rw [BA_toList]; rfl
  have hc0 : (BA (c :: r'))[0]'(by simp) = c := rfl
  have hsz : (0 : Int) < ((r'.length : Int) + 1) := by omega
  have hsz1 : (1 : Int) ≤ ((r'.length : Int) + 1) := by omega
  have hk6 : (k : Int) < 6 := by omega
  rw [nmd_cons hf0]
  clear hf0
  have HX : Hid ((BA (c :: r')).extract 0 1 = BA [c]) := hide (by have := extract_take (BA (c :: r')) 0 1; simpa using this)
  have HS := hide (fun W => special_any c W)
  rcases Bool.eq_false_or_eq_true (digB (c.toNat : Int)) with hd | hd
  · have HD := hide (fun W => digit_any (c.toNat : Int) W)
    rw [hd] at HD
    rw [hd, Bool.true_or, if_pos rfl, if_neg (by decide)]
    go_enter Tryd.func56, Tryd.ntmps56
    go_wp2_with fail
    refine (unhide HF _).mono ?_
    rintro e w1 ⟨rfl, hw1⟩
    have hw2 := hw1.symm
    subst hw2
    clear hw1
    go_wp2_with fail
    refine (unhide HD _).mono ?_
    rintro e w1 ⟨rfl, hw1⟩
    have hw2 := hw1.symm
    subst hw2
    clear hw1
    go_wp2_with fail
    go_region_with (go_at_call 32; refine (unhide HA _ _ _ _ (by rw [unhide HX]; simp) (below_drew _ 1)).mono ?_; rintro e w2 ⟨rfl, a2⟩)
    all_goals
      go_wp2
      go_ret
      rw [unhide HX] at a2
      exact ⟨rfl, a2⟩
  · have HD := hide (fun W => digit_any (c.toNat : Int) W)
    rw [hd] at HD
    rw [hd, Bool.false_or]
    rcases Bool.eq_false_or_eq_true (speB c) with hs | hs
    · rw [hs] at HS
      rw [hs, if_pos rfl, if_neg (by decide)]
      go_enter Tryd.func56, Tryd.ntmps56
      go_wp2_with fail
      refine (unhide HF _).mono ?_
      rintro e w1 ⟨rfl, hw1⟩
      have hw2 := hw1.symm
      subst hw2
      clear hw1
      go_wp2_with fail
      refine (unhide HD _).mono ?_
      rintro e w1 ⟨rfl, hw1⟩
      have hw2 := hw1.symm
      subst hw2
      clear hw1
      go_wp2_with fail
      refine (unhide HS _).mono ?_
      rintro e w1 ⟨rfl, hw1⟩
      have hw2 := hw1.symm
      subst hw2
      clear hw1
      go_wp2_with fail
      go_region_with (go_at_call 32; refine (unhide HA _ _ _ _ (by rw [unhide HX]; simp) (below_drew _ 1)).mono ?_; rintro e w2 ⟨rfl, a2⟩)
      all_goals
        go_wp2
        go_ret
        rw [unhide HX] at a2
        exact ⟨rfl, a2⟩
    · rw [hs] at HS
      rw [hs, if_neg (by decide), if_pos rfl]
      go_enter Tryd.func56, Tryd.ntmps56
      go_wp2_with fail
      refine (unhide HF _).mono ?_
      rintro e w1 ⟨rfl, hw1⟩
      have hw2 := hw1.symm
      subst hw2
      clear hw1
      go_wp2_with fail
      refine (unhide HD _).mono ?_
      rintro e w1 ⟨rfl, hw1⟩
      have hw2 := hw1.symm
      subst hw2
      clear hw1
      go_wp2_with fail
      refine (unhide HS _).mono ?_
      rintro e w1 ⟨rfl, hw1⟩
      have hw2 := hw1.symm
      subst hw2
      clear hw1
      go_wp2_with fail
      refine (lit_any _ _ _).mono ?_
      rintro e w2 ⟨rfl, b2⟩
      have HB2 := hide b2
      clear b2
      go_wp2_with fail
      refine (unhide HA _ _ _ _ (by show 1 ≤ _; omega) (unhide HB2)).mono ?_
      rintro e w3 ⟨rfl, a3⟩
      go_wp2
      go_ret
      exact ⟨rfl, a3⟩

theorem short_any (k : Nat) (r : List UInt8) (w : World) (b : Nat) (X : Nat → Prop) (ps : List Prt) (he : WEnv w) (hk : k < 6) (hrl : r.length ≤ 5000) (h : LSt w b X ps) (hr : Room ps (r.length + 1)) :
    Calls Tryd.prog 56 #[.int .i64 (k : Int), .string (BA r), (.func (Fn.func 32) #[.pointer (some ⟨b, 0, none⟩)] #[])] w fun e w' => e = .returned (.int .i64 (nmdN r : Int)) ∧ Adds w b X (addP ps (if nmdN r = 0 then litP [36] true else .mk 2 (r.take (nmdN r)) (allW k) 0 false [])) w' := by
  by_cases hf : 0 < frontN r
  · exact short_front k r w b X ps he hk hrl h hr hf
  · cases r with
    | nil => exact short_nil k w b X ps he hk h hr
    | cons c r' => exact short_cons k c r' w b X ps he hk hrl h hr (by omega)

end Go.Proofs.YtodcfgbcigjjfaaDoor

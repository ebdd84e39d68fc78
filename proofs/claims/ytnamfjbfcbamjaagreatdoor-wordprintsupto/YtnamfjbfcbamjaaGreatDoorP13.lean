/-
  Package word's pair and short: what they add to the list.
  Package word's short.
-/
import Derived.Test.YtnamfjbfcbamjaaGreatDoorP11
import Derived.Test.YtnamfjbfcbamjaaGreatDoorP12
import Derived.Deep.RegionWith
namespace Go.Proofs.YtnamfjbfcbamjaaGreatDoor
open Go.RowKit
def Adds (w : World) (b : Nat) (X : Nat → Prop) (ps : List Prt) (w' : World) : Prop := ∃ X', LSt w' b X' ps ∧ GrownS w w' X ∧ ∀ k, X' k → X k ∨ w.heap.size ≤ k
theorem Adds.trans {w w1 w2 : World} {b : Nat} {X X1 : Nat → Prop} {qs : List Prt} (hg : GrownS w w1 X) (hx : ∀ k, X1 k → X k ∨ w.heap.size ≤ k) (h2 : Adds w1 b X1 qs w2) : Adds w b X qs w2 := by
  obtain ⟨X2, h3, h4, h5⟩ := h2
  refine ⟨X2, h3, hg.trans2 h4 (fun k hk e => ?_), fun k hk => ?_⟩
  · rcases hx k e with e | e
    · exact e
    · omega
  · rcases h5 k hk with e | e
    · exact hx k e
    · exact .inr (Nat.le_trans hg.size e)
theorem Adds.of_below {w w1 w2 : World} {b : Nat} {X : Nat → Prop} {qs : List Prt} (hb : Below w.heap.size w w1) (h2 : Adds w1 b X qs w2) : Adds w b X qs w2 := Adds.trans (grownS_of_below hb) (fun _ h => .inl h) h2
theorem Adds.below {w w1 w2 : World} {b : Nat} {X : Nat → Prop} {qs : List Prt} (h : Adds w b X qs w1) (hb : Below w1.heap.size w1 w2) : Adds w b X qs w2 := by
  obtain ⟨X1, h3, h4, h5⟩ := h
  exact ⟨X1, h3.below hb, h4.trans (grownS_of_below hb), h5⟩
theorem Adds.refl {w : World} {b : Nat} {X : Nat → Prop} {ps : List Prt} (h : LSt w b X ps) : Adds w b X ps w := ⟨X, h, grownS_of_below (Below.refl _ _), fun _ h => .inl h⟩
theorem LSt.lo {w : World} {b : Nat} {X : Nat → Prop} {ps : List Prt} (h : LSt w b X ps) : ∀ k, X k → b ≤ k := by
  obtain ⟨L, bs, pv, bv, h1, _⟩ := h
  exact h1.lo
theorem LSt.hi {w : World} {b : Nat} {X : Nat → Prop} {ps : List Prt} (h : LSt w b X ps) : ∀ k, X k → k < w.heap.size := by
  obtain ⟨L, bs, pv, bv, h1, _⟩ := h
  exact h1.hi
theorem LSt.lt {w : World} {b : Nat} {X : Nat → Prop} {ps : List Prt} (h : LSt w b X ps) : b < w.heap.size := by
  obtain ⟨L, bs, pv, bv, h1, _⟩ := h
  exact h1.blk.lt
theorem below3 {w w1 : World} {X : Nat → Prop} {b : Nat} (hg : GrownS w w1 X) (hx : ∀ k, X k → b ≤ k) (hb : 3 ≤ b) (hw : 2 < w.heap.size) : Below 3 w w1 := hg.below (by omega) (fun k hk => by have := hx k hk; omega)
def Room (ps : List Prt) (n : Nat) : Prop := ps.length + n ≤ 100000 ∧ tlen ps + n ≤ 1000000
theorem add_plain (w : World) (b : Nat) (X : Nat → Prop) (ps : List Prt) (k : Int) (t : ByteArray) (q : Bool) (o : Int) (c : Bool) (h : LSt w b X ps) (hr : Room ps t.size) :
    Calls Tryz.prog 41 #[.pointer (some ⟨b, 0, none⟩), .agg #[.int .i64 k, .string t, .bool q, .int .i64 o, .bool c, .slice none 0 0]] w fun e w' => e = .returned (.tuple #[]) ∧ Adds w b X (addP ps (.mk k t.data.toList q o c [])) w' :=
  ladd_any w b X (fun _ => False) ps _ (.mk k t.data.toList q o c []) h ⟨_, rfl, wat_nil _ _ _ _⟩ (fun _ h => h.elim) (by have := hr.1; omega) (by have := hr.2; show tlen ps + t.data.toList.length ≤ _; rw [data_len]; exact this)
theorem esc_idx (k : Nat) (c : UInt8) (hk : k = 2 ∨ k = 3 ∨ k = 5) : decide (0 ≤ Lib.indexByte (escL k) c) = escW k c := by
  have key : ((List.range 256).all fun n => (decide (0 ≤ Lib.indexByte (escL 2) (UInt8.ofNat n)) == escW 2 (UInt8.ofNat n)) && (decide (0 ≤ Lib.indexByte (escL 3) (UInt8.ofNat n)) == escW 3 (UInt8.ofNat n)) && (decide (0 ≤ Lib.indexByte (escL 5) (UInt8.ofNat n)) == escW 5 (UInt8.ofNat n))) = true := by kernel_rfl
  have h1 := List.all_eq_true.1 key c.toNat (List.mem_range.2 c.toNat_lt)
  simp only [UInt8.ofNat_toNat, Bool.and_eq_true, beq_iff_eq] at h1
  rcases hk with rfl | rfl | rfl
  · exact h1.1.1
  · exact h1.1.2
  · exact h1.2
set_option maxRecDepth 20000 in
set_option maxHeartbeats 4000000 in
theorem pair_any (k : Nat) (u : List UInt8) (w : World) (b : Nat) (X : Nat → Prop) (ps : List Prt) (he : WEnv w) (hk : k < 6) (hu : u.length ≤ 1) (h : LSt w b X ps) (hr : Room ps 2) :
    Calls Tryz.prog 75 #[.int .i64 (k : Int), .string (BA u), (.func (Fn.func 41) #[.pointer (some ⟨b, 0, none⟩)] #[])] w fun e w' => e = .returned (.tuple #[]) ∧ Adds w b X ((pairL k u).foldl addP ps) w' := by
  have r0 := he.r0 k hk
  have r1 := he.r1 k hk
  have r2 := he.r2 k hk
  have r3 := he.r3 k hk
  have h2 := he.two
  have HB : Hid (∀ o, Below w.heap.size w (w.alloc o)) := hide (fun o => (Below.refl _ w).alloc (Nat.le_refl _) _)
  have HA : Hid (∀ w1 (t : ByteArray), t.size ≤ 2 → Below w.heap.size w w1 → Calls Tryz.prog 41 #[.pointer (some ⟨b, 0, none⟩), .agg #[.int .i64 1, .string t, .bool true, .int .i64 0, .bool false, .slice none 0 0]] w1 fun e w' => e = .returned (.tuple #[]) ∧ Adds w b X (addP ps (litP t.data.toList true)) w') := hide (fun w1 t ht hb =>
    (add_plain w1 b X ps 1 t true 0 false (h.below hb) ⟨by have := hr.1; omega, by have := hr.2; omega⟩).mono (fun e w' ⟨h1, h3⟩ => ⟨h1, h3.of_below hb⟩))
  match u, hu with
  | [], _ =>
    have hp : pairL k [] = [litP [92] true] := by unfold pairL; simp
    rw [hp]
    have t1 : ((BA []).toList == [10]) = false := by rw [BA_toList]; rfl
    have t2 : (BA []).toList.isEmpty = true := by rw [BA_toList]; rfl
    clear he h hp
    go_enter Tryz.func75, Tryz.ntmps75
    go_wp2_with fail
    refine (lit_any _ _ _).mono ?_
    rintro e w1 ⟨rfl, b1⟩
    have HB1 := hide ((unhide HB _).trans (b1.mono (by simp)))
    clear b1
    go_wp2_with fail
    refine (unhide HA _ _ (by first | decide | (show (1 : Nat) ≤ 2; decide) | (rw [ByteArray.size_append]; show (1 : Nat) + 1 ≤ 2; decide)) (unhide HB1)).mono ?_
    rintro e w2 ⟨rfl, a2⟩
    go_wp2
    refine bodyPost_end (res0 rfl _ _) rfl ?_
    exact ⟨rfl, a2⟩
  | [c], _ =>
    have t2 : (BA [c]).toList.isEmpty = false := by rw [BA_toList]; rfl
    by_cases h10 : c = 10
    · subst h10
      have hp : pairL k [10] = [] := by unfold pairL; simp
      rw [hp]
      have t1 : ((BA [10]).toList == [10]) = true := by rw [BA_toList]; rfl
      have HL := hide (Adds.refl h)
      clear he h hp
      go_enter Tryz.func75, Tryz.ntmps75
      go_wp2
      refine bodyPost_end (res0 rfl _ _) rfl ?_
      exact ⟨rfl, (unhide HL).below (unhide HB _)⟩
    have t1 : ((BA [c]).toList == [10]) = false := by rw [BA_toList]; simp [h10]
    rcases Bool.eq_false_or_eq_true (allW k) with hal | hal
    · have h235 : k = 2 ∨ k = 3 ∨ k = 5 := by unfold allW at hal; simp at hal; omega
      have HCo : Hid (∀ W, Calls Tryz.prog 88 #[.string (BA (escL k)), .string (BA [c])] W fun e w' => e = .returned (.bool (escW k c)) ∧ w' = W) := hide (fun W => by rw [← esc_idx k c h235]; exact Tryz.strings_Contains_one (BA (escL k)) c W)
      rw [hal] at r2
      rcases Bool.eq_false_or_eq_true (escW k c) with hes | hes
      · have hp : pairL k [c] = [litP [c] true] := by unfold pairL; simp [h10, hes]
        rw [hp]
        rw [hes] at HCo
        clear he h hp h10
        go_enter Tryz.func75, Tryz.ntmps75
        go_wp2_with fail
        refine (unhide HCo _).mono ?_
        rintro e w1 ⟨rfl, rfl⟩
        go_wp2_with fail
        refine (lit_any _ _ _).mono ?_
        rintro e w1 ⟨rfl, b1⟩
        have HB1 := hide ((unhide HB _).trans (b1.mono (by simp)))
        clear b1
        go_wp2_with fail
        refine (unhide HA _ _ (by first | decide | (show (1 : Nat) ≤ 2; decide) | (rw [ByteArray.size_append]; show (1 : Nat) + 1 ≤ 2; decide)) (unhide HB1)).mono ?_
        rintro e w2 ⟨rfl, a2⟩
        go_wp2
        refine bodyPost_end (res0 rfl _ _) rfl ?_
        exact ⟨rfl, a2⟩
      · have hp : pairL k [c] = [litP [92, c] true] := by unfold pairL; simp [h10, hes, hal]
        rw [hp]
        rw [hes] at HCo
        clear he h hp h10
        go_enter Tryz.func75, Tryz.ntmps75
        go_wp2_with fail
        refine (unhide HCo _).mono ?_
        rintro e w1 ⟨rfl, rfl⟩
        go_wp2_with fail
        refine (lit_any _ _ _).mono ?_
        rintro e w1 ⟨rfl, b1⟩
        have HB1 := hide ((unhide HB _).trans (b1.mono (by simp)))
        clear b1
        go_wp2_with fail
        refine (unhide HA _ _ (by first | decide | (show (1 : Nat) ≤ 2; decide) | (rw [ByteArray.size_append]; show (1 : Nat) + 1 ≤ 2; decide)) (unhide HB1)).mono ?_
        rintro e w2 ⟨rfl, a2⟩
        go_wp2
        refine bodyPost_end (res0 rfl _ _) rfl ?_
        rw [show (({ data := #[92] } : ByteArray) ++ BA [c]).data.toList = [92, c] by simp [ByteArray.data_append]] at a2
        exact ⟨rfl, a2⟩
    · have hp : pairL k [c] = [litP [c] true] := by unfold pairL; simp [h10, hal]
      rw [hp]
      rw [hal] at r2
      clear he h hp h10
      go_enter Tryz.func75, Tryz.ntmps75
      go_wp2_with fail
      refine (lit_any _ _ _).mono ?_
      rintro e w1 ⟨rfl, b1⟩
      have HB1 := hide ((unhide HB _).trans (b1.mono (by simp)))
      clear b1
      go_wp2_with fail
      refine (unhide HA _ _ (by first | decide | (show (1 : Nat) ≤ 2; decide) | (rw [ByteArray.size_append]; show (1 : Nat) + 1 ≤ 2; decide)) (unhide HB1)).mono ?_
      rintro e w2 ⟨rfl, a2⟩
      go_wp2
      refine bodyPost_end (res0 rfl _ _) rfl ?_
      exact ⟨rfl, a2⟩
end Go.Proofs.YtnamfjbfcbamjaaGreatDoor
namespace Go.Proofs.YtnamfjbfcbamjaaGreatDoor
open Go.RowKit
theorem nmd_front {l : List UInt8} (h : 0 < frontN l) : nmdN l = frontN l := by unfold nmdN; rw [if_pos h]
theorem nmd_cons {c : UInt8} {r : List UInt8} (h : frontN (c :: r) = 0) : nmdN (c :: r) = if digB (c.toNat : Int) || speB c then 1 else 0 := by unfold nmdN; rw [if_neg (by omega)]
set_option maxRecDepth 20000 in
set_option maxHeartbeats 4000000 in
theorem short_front (k : Nat) (r : List UInt8) (w : World) (b : Nat) (X : Nat → Prop) (ps : List Prt) (he : WEnv w) (hk : k < 6) (hrl : r.length ≤ 5000) (h : LSt w b X ps) (hr : Room ps (r.length + 1)) (hf : 0 < frontN r) :
    Calls Tryz.prog 78 #[.int .i64 (k : Int), .string (BA r), (.func (Fn.func 41) #[.pointer (some ⟨b, 0, none⟩)] #[])] w fun e w' => e = .returned (.int .i64 (nmdN r : Int)) ∧ Adds w b X (addP ps (if nmdN r = 0 then litP [36] true else .mk 2 (r.take (nmdN r)) (allW k) 0 false [])) w' := by
  have r2 := he.r2 k hk
  have h2 := he.two
  have HF := hide (fun W => front_any (BA r) W (by simp; omega))
  simp only [BA_list] at HF
  have HA : Hid (∀ w1 k (t : ByteArray) q, t.size ≤ r.length + 1 → Below w.heap.size w w1 → Calls Tryz.prog 41 #[.pointer (some ⟨b, 0, none⟩), .agg #[.int .i64 k, .string t, .bool q, .int .i64 0, .bool false, .slice none 0 0]] w1 fun e w' => e = .returned (.tuple #[]) ∧ Adds w b X (addP ps (.mk k t.data.toList q 0 false [])) w') := hide (fun w1 k t q ht hb =>
    (add_plain w1 b X ps k t q 0 false (h.below hb) ⟨by have := hr.1; omega, by have := hr.2; omega⟩).mono (fun e w' ⟨h1, h3⟩ => ⟨h1, h3.of_below hb⟩))
  clear he h hr
  have hn := nmd_front hf
  have hle := front_le r
  rw [← hn] at HF hf hle
  obtain ⟨n, hnn⟩ : ∃ n, n = nmdN r := ⟨_, rfl⟩
  rw [← hnn] at HF hf hle ⊢
  have hn0 : ((n : Int) == 0) = false := by rw [beq_eq_false_iff_ne]; omega
  have hn1 : (n : Int) ≤ (r.length : Int) := by omega
  rw [if_neg (by omega)]
  have HX : Hid ((BA r).extract 0 n = BA (r.take n)) := hide (by have := extract_take (BA r) 0 n; simpa using this)
  clear hn hnn
  go_enter Tryz.func78, Tryz.ntmps78
  go_wp2_with fail
  refine (unhide HF _).mono ?_
  rintro e w1 ⟨rfl, hw1⟩
  have hw2 := hw1.symm
  subst hw2
  clear hw1
  go_wp2_with fail
  go_region_with (go_at_call 41; refine (unhide HA _ _ _ _ (by rw [unhide HX]; simp; omega) (below_drew _ 1)).mono ?_; rintro e w2 ⟨rfl, a2⟩)
  go_wp2
  go_ret
  rw [unhide HX] at a2
  exact ⟨rfl, a2⟩
set_option maxRecDepth 20000 in
set_option maxHeartbeats 4000000 in
theorem short_nil (k : Nat) (w : World) (b : Nat) (X : Nat → Prop) (ps : List Prt) (he : WEnv w) (hk : k < 6) (h : LSt w b X ps) (hr : Room ps (([] : List UInt8).length + 1)) :
    Calls Tryz.prog 78 #[.int .i64 (k : Int), .string (BA []), (.func (Fn.func 41) #[.pointer (some ⟨b, 0, none⟩)] #[])] w fun e w' => e = .returned (.int .i64 (nmdN [] : Int)) ∧ Adds w b X (addP ps (if nmdN [] = 0 then litP [36] true else .mk 2 (([] : List UInt8).take (nmdN [])) (allW k) 0 false [])) w' := by
  have r2 := he.r2 k hk
  have h2 := he.two
  have HF := hide (fun W => front_any (BA []) W (by simp))
  simp only [BA_list] at HF
  have HA : Hid (∀ w1 k (t : ByteArray) q, t.size ≤ ([] : List UInt8).length + 1 → Below w.heap.size w w1 → Calls Tryz.prog 41 #[.pointer (some ⟨b, 0, none⟩), .agg #[.int .i64 k, .string t, .bool q, .int .i64 0, .bool false, .slice none 0 0]] w1 fun e w' => e = .returned (.tuple #[]) ∧ Adds w b X (addP ps (.mk k t.data.toList q 0 false [])) w') := hide (fun w1 k t q ht hb =>
    (add_plain w1 b X ps k t q 0 false (h.below hb) ⟨by have := hr.1; omega, by have := hr.2; omega⟩).mono (fun e w' ⟨h1, h3⟩ => ⟨h1, h3.of_below hb⟩))
  clear he h hr
  rw [show frontN [] = 0 from rfl] at HF
  have t2 : (BA []).toList.isEmpty = true := by rw [BA_toList]; rfl
  rw [show nmdN [] = 0 from rfl, if_pos rfl]
  go_enter Tryz.func78, Tryz.ntmps78
  go_wp2_with fail
  refine (unhide HF _).mono ?_
  rintro e w1 ⟨rfl, hw1⟩
  have hw2 := hw1.symm
  subst hw2
  clear hw1
  go_wp2_with fail
  refine (lit_any _ _ _).mono ?_
  rintro e w2 ⟨rfl, b2⟩
  have HB2 := hide b2
  clear b2
  go_wp2_with fail
  refine (unhide HA _ _ _ _ (by show 1 ≤ _; omega) (unhide HB2)).mono ?_
  rintro e w3 ⟨rfl, a3⟩
  go_wp2
  go_ret
  exact ⟨rfl, a3⟩
set_option maxRecDepth 20000 in
set_option maxHeartbeats 4000000 in
theorem short_cons (k : Nat) (c : UInt8) (r' : List UInt8) (w : World) (b : Nat) (X : Nat → Prop) (ps : List Prt) (he : WEnv w) (hk : k < 6) (hrl : (c :: r').length ≤ 5000) (h : LSt w b X ps) (hr : Room ps ((c :: r').length + 1)) (hf0 : frontN (c :: r') = 0) :
    Calls Tryz.prog 78 #[.int .i64 (k : Int), .string (BA (c :: r')), (.func (Fn.func 41) #[.pointer (some ⟨b, 0, none⟩)] #[])] w fun e w' => e = .returned (.int .i64 (nmdN (c :: r') : Int)) ∧ Adds w b X (addP ps (if nmdN (c :: r') = 0 then litP [36] true else .mk 2 ((c :: r').take (nmdN (c :: r'))) (allW k) 0 false [])) w' := by
  have r2 := he.r2 k hk
  have h2 := he.two
  have HF := hide (fun W => front_any (BA (c :: r')) W (by simp at hrl ⊢; omega))
  simp only [BA_list] at HF
  have HA : Hid (∀ w1 k (t : ByteArray) q, t.size ≤ (c :: r').length + 1 → Below w.heap.size w w1 → Calls Tryz.prog 41 #[.pointer (some ⟨b, 0, none⟩), .agg #[.int .i64 k, .string t, .bool q, .int .i64 0, .bool false, .slice none 0 0]] w1 fun e w' => e = .returned (.tuple #[]) ∧ Adds w b X (addP ps (.mk k t.data.toList q 0 false [])) w') := hide (fun w1 k t q ht hb =>
    (add_plain w1 b X ps k t q 0 false (h.below hb) ⟨by have := hr.1; omega, by have := hr.2; omega⟩).mono (fun e w' ⟨h1, h3⟩ => ⟨h1, h3.of_below hb⟩))
  clear he h hr
  rw [hf0] at HF
  have t2 : (BA (c :: r')).toList.isEmpty = false := by rw [BA_toList]; rfl
  have hc0 : (BA (c :: r'))[0]'(by simp) = c := rfl
  have hsz : (0 : Int) < ((r'.length : Int) + 1) := by omega
  have hsz1 : (1 : Int) ≤ ((r'.length : Int) + 1) := by omega
  have hk6 : (k : Int) < 6 := by omega
  rw [nmd_cons hf0]
  clear hf0
  have HX : Hid ((BA (c :: r')).extract 0 1 = BA [c]) := hide (by have := extract_take (BA (c :: r')) 0 1; simpa using this)
  have HS := hide (fun W => special_any c W)
  rcases Bool.eq_false_or_eq_true (digB (c.toNat : Int)) with hd | hd
  · have HD := hide (fun W => digit_any (c.toNat : Int) W)
    rw [hd] at HD
    rw [hd, Bool.true_or, if_pos rfl, if_neg (by decide)]
    go_enter Tryz.func78, Tryz.ntmps78
    go_wp2_with fail
    refine (unhide HF _).mono ?_
    rintro e w1 ⟨rfl, hw1⟩
    have hw2 := hw1.symm
    subst hw2
    clear hw1
    go_wp2_with fail
    refine (unhide HD _).mono ?_
    rintro e w1 ⟨rfl, hw1⟩
    have hw2 := hw1.symm
    subst hw2
    clear hw1
    go_wp2_with fail
    go_region_with (go_at_call 41; refine (unhide HA _ _ _ _ (by rw [unhide HX]; simp) (below_drew _ 1)).mono ?_; rintro e w2 ⟨rfl, a2⟩)
    all_goals
      go_wp2
      go_ret
      rw [unhide HX] at a2
      exact ⟨rfl, a2⟩
  · have HD := hide (fun W => digit_any (c.toNat : Int) W)
    rw [hd] at HD
    rw [hd, Bool.false_or]
    rcases Bool.eq_false_or_eq_true (speB c) with hs | hs
    · rw [hs] at HS
      rw [hs, if_pos rfl, if_neg (by decide)]
      go_enter Tryz.func78, Tryz.ntmps78
      go_wp2_with fail
      refine (unhide HF _).mono ?_
      rintro e w1 ⟨rfl, hw1⟩
      have hw2 := hw1.symm
      subst hw2
      clear hw1
      go_wp2_with fail
      refine (unhide HD _).mono ?_
      rintro e w1 ⟨rfl, hw1⟩
      have hw2 := hw1.symm
      subst hw2
      clear hw1
      go_wp2_with fail
      refine (unhide HS _).mono ?_
      rintro e w1 ⟨rfl, hw1⟩
      have hw2 := hw1.symm
      subst hw2
      clear hw1
      go_wp2_with fail
      go_region_with (go_at_call 41; refine (unhide HA _ _ _ _ (by rw [unhide HX]; simp) (below_drew _ 1)).mono ?_; rintro e w2 ⟨rfl, a2⟩)
      all_goals
        go_wp2
        go_ret
        rw [unhide HX] at a2
        exact ⟨rfl, a2⟩
    · rw [hs] at HS
      rw [hs, if_neg (by decide), if_pos rfl]
      go_enter Tryz.func78, Tryz.ntmps78
      go_wp2_with fail
      refine (unhide HF _).mono ?_
      rintro e w1 ⟨rfl, hw1⟩
      have hw2 := hw1.symm
      subst hw2
      clear hw1
      go_wp2_with fail
      refine (unhide HD _).mono ?_
      rintro e w1 ⟨rfl, hw1⟩
      have hw2 := hw1.symm
      subst hw2
      clear hw1
      go_wp2_with fail
      refine (unhide HS _).mono ?_
      rintro e w1 ⟨rfl, hw1⟩
      have hw2 := hw1.symm
      subst hw2
      clear hw1
      go_wp2_with fail
      refine (lit_any _ _ _).mono ?_
      rintro e w2 ⟨rfl, b2⟩
      have HB2 := hide b2
      clear b2
      go_wp2_with fail
      refine (unhide HA _ _ _ _ (by show 1 ≤ _; omega) (unhide HB2)).mono ?_
      rintro e w3 ⟨rfl, a3⟩
      go_wp2
      go_ret
      exact ⟨rfl, a3⟩
theorem short_any (k : Nat) (r : List UInt8) (w : World) (b : Nat) (X : Nat → Prop) (ps : List Prt) (he : WEnv w) (hk : k < 6) (hrl : r.length ≤ 5000) (h : LSt w b X ps) (hr : Room ps (r.length + 1)) :
    Calls Tryz.prog 78 #[.int .i64 (k : Int), .string (BA r), (.func (Fn.func 41) #[.pointer (some ⟨b, 0, none⟩)] #[])] w fun e w' => e = .returned (.int .i64 (nmdN r : Int)) ∧ Adds w b X (addP ps (if nmdN r = 0 then litP [36] true else .mk 2 (r.take (nmdN r)) (allW k) 0 false [])) w' := by
  by_cases hf : 0 < frontN r
  · exact short_front k r w b X ps he hk hrl h hr hf
  · cases r with
    | nil => exact short_nil k w b X ps he hk h hr
    | cons c r' => exact short_cons k c r' w b X ps he hk hrl h hr (by omega)
end Go.Proofs.YtnamfjbfcbamjaaGreatDoor

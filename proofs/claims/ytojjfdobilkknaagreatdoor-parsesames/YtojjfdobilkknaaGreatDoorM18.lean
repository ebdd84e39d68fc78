/- Package word's thing.; Package word's thing, where a byte stands for itself.; Package word's thing, read and word: what a text is parsed as. -/
import Derived.Test.YtojjfdobilkknaaGreatDoorM17
import Derived.Test.YtojjfdobilkknaaGreatDoorM14
import Derived.Maps.RangeWalk
set_option maxRecDepth 20000
set_option maxHeartbeats 4000000
namespace Go.Proofs.YtojjfdobilkknaaGreatDoor
open Go.RowKit
def dqTh (rest : List UInt8) : Rd → Th
 | .err e => .err e
 | .ok ps => .ok (if ps.isEmpty then [litP [] true] else ps) rest
def lgTh (k : Nat) (rest : List UInt8) : Bd → Th
 | .err e => .err e
 | .ok p => .ok [setQ (allW k) p] rest
def WThEnd (r : Th) (n : Nat) (w : World) (b : Nat) (X : Nat → Prop) (ps : List Prt) (e : Ending) (w' : World) : Prop :=
 match r with
 | .ok evs rest => e = .returned (.tuple #[.int .i64 ((n + 1 - rest.length : Nat) : Int), .int .i64 0]) ∧ Adds w b X (evs.foldl addP ps) w'
 | .err x => ∃ z : Int, e = .returned (.tuple #[.int .i64 z, .int .i64 x]) ∧ x ≠ 0 ∧ GrownS w w' X
theorem ret_th {a b c d : Int} (h : a = b) (g : c = d) : Ending.returned (.tuple #[.int .i64 a, .int .i64 c]) = .returned (.tuple #[.int .i64 b, .int .i64 d]) := by rw [h, g]
theorem thi_split {F : Nat} {c : UInt8} {r rest : List UInt8} {wh d : Nat} (h : thg (F + 3) (c :: r) wh d = .ok rest) : ∃ u, r = u ++ rest := by
 have h1 := thg_rest h
 obtain ⟨t, ht⟩ := thg_suf h
 cases t with
 | nil =>
   have := congrArg List.length ht
   simp at this
   omega
 | cons x t => exact ⟨t, by simp at ht; exact ht.2⟩
theorem ext1 (c : UInt8) (u rest : List UInt8) : (BA (c :: (u ++ rest))).extract 1 (u.length + 1) = BA u := by
 have := extract_take (BA (c :: (u ++ rest))) 1 u.length
 rw [show 1 + u.length = u.length + 1 by omega] at this
 rw [this]
 simp
theorem ext1d (c : UInt8) (u rest : List UInt8) (h : u ≠ []) : (BA (c :: (u ++ rest))).extract 1 u.length = BA u.dropLast := by
 obtain ⟨n, hn⟩ : ∃ n, u.length = n + 1 := ⟨u.length - 1, by have := List.length_pos_iff.2 h; omega⟩
 have := extract_take (BA (c :: (u ++ rest))) 1 n
 rw [show 1 + n = u.length by omega] at this
 rw [this, List.dropLast_eq_take, hn]
 simp only [BA_list, List.drop_succ_cons, List.drop_zero, Nat.add_sub_cancel]
 rw [List.take_append_of_le_length (by omega)]
theorem ext1e (c : UInt8) (r : List UInt8) : (BA (c :: r)).extract 1 (r.length + 1) = BA r := by
 have := extract_end (BA (c :: r)) 1
 simpa using this
theorem ext01 (c : UInt8) (r : List UInt8) : (BA (c :: r)).extract 0 1 = BA [c] := by
 have := extract_take (BA (c :: r)) 0 1
 simpa using this
theorem th_92 (k : Nat) (c : UInt8) (u rest : List UInt8) (w : World) (b : Nat) (X : Nat → Prop) (ps : List Prt) (he : WEnv w) (hk : k < 6) (hrl : (u ++ rest).length + 1 ≤ 4096) (h : LSt w b X ps) (hr : Room ps (2 * ((u ++ rest).length + 1) + 4)) (HPC : Hid (∀ W, WEnv W → Calls Tryz.prog 149 #[.int .i64 (k : Int), .string (BA (c :: (u ++ rest)))] W fun e w' => e = .returned (.tuple #[.int .i64 ((u.length : Int) + 1), .int .i64 0]) ∧ Below W.heap.size W w')) (hc92 : c = 92) (hu1 : u.length ≤ 1) :
 Calls Tryz.prog 145 #[.int .i64 (k : Int), .string (BA (c :: (u ++ rest))), (.func (Fn.func 138) #[.pointer (some ⟨b, 0, none⟩)] #[])] w fun e w' => WThEnd (.ok (pairL k u) rest) (u ++ rest).length w b X ps e w' := by
 have h2w := he.two
 have HE := hide he
 have HH := hide h
 have HR := hide hr
 have hul : u.length ≤ 4096 := by simp at hrl; omega
 have hub : (u.length : Int) ≤ 4096 := by omega
 have hun : (u.length : Int) + 1 ≤ ((u.length : Int) + (rest.length : Int)) + 1 := by omega
 have hN0 : ((u ++ rest).length + 1 - rest.length : Nat) = u.length + 1 := by simp; omega
 obtain ⟨NN, hNN⟩ : ∃ x, x = (u ++ rest).length := ⟨_, rfl⟩
 rw [← hNN]
 have HN : Hid (((NN + 1 - rest.length : Nat) : Int) = (u.length : Int) + 1) := hide (by rw [hNN, hN0]; rfl)
 clear hNN
 have hsz : (0 : Int) < ((u ++ rest).length : Int) + 1 := by omega
 obtain ⟨cc, hcc⟩ : ∃ x : Int, x = (c.toNat : Int) := ⟨_, rfl⟩
 have hc0 : (((BA (c :: (u ++ rest)))[0]'(by simp)).toNat : Int) = cc := hcc.symm
 have hcr := byte_range c
 have hb92 : (cc == 92) = true := by rw [hcc, hc92]; rfl
 have HX := hide (ext1 c u rest)
 clear he h hr hcc hN0 hcr hc92
 go_enter Tryz.func145, Tryz.ntmps145
 go_wp2_with fail
 refine (uh HPC _ (uh HE)).mono ?_
 rintro e w1 ⟨rfl, b1⟩
 have HB1 := hide b1
 have HE1 := hide ((uh HE).below (b1.mono (by omega)))
 have HH1 := hide ((uh HH).below b1)
 have hw1 : 6 < w1.heap.size := by have := b1.size; omega
 clear b1 HPC
 go_wp2_with fail
 rw [uh HX]
 refine (pair_any k u w1 b X ps (uh HE1) hk hu1 (uh HH1) ⟨by have := (uh HR).1; omega, by have := (uh HR).2; omega⟩).mono ?_
 rintro e w2 ⟨rfl, a2⟩
 go_wp2
 go_ret2
 refine ⟨ret_th (uh HN).symm rfl, ?_⟩
 exact a2.of_below (uh HB1)
theorem th_39 (k : Nat) (c : UInt8) (u rest : List UInt8) (w : World) (b : Nat) (X : Nat → Prop) (ps : List Prt) (he : WEnv w) (hrl : (u ++ rest).length + 1 ≤ 4096) (h : LSt w b X ps) (hr : Room ps (2 * ((u ++ rest).length + 1) + 4)) (HPC : Hid (∀ W, WEnv W → Calls Tryz.prog 149 #[.int .i64 (k : Int), .string (BA (c :: (u ++ rest)))] W fun e w' => e = .returned (.tuple #[.int .i64 ((u.length : Int) + 1), .int .i64 0]) ∧ Below W.heap.size W w')) (hc39 : c = 39) (hu : u ≠ []) :
 Calls Tryz.prog 145 #[.int .i64 (k : Int), .string (BA (c :: (u ++ rest))), (.func (Fn.func 138) #[.pointer (some ⟨b, 0, none⟩)] #[])] w fun e w' => WThEnd (.ok [litP u.dropLast true] rest) (u ++ rest).length w b X ps e w' := by
 have h2w := he.two
 have HE := hide he
 have HH := hide h
 have HR := hide hr
 have hul : u.length ≤ 4096 := by simp at hrl; omega
 have hub : (u.length : Int) ≤ 4096 := by omega
 have hun : (u.length : Int) + 1 ≤ ((u.length : Int) + (rest.length : Int)) + 1 := by omega
 have hN0 : ((u ++ rest).length + 1 - rest.length : Nat) = u.length + 1 := by simp; omega
 obtain ⟨NN, hNN⟩ : ∃ x, x = (u ++ rest).length := ⟨_, rfl⟩
 rw [← hNN]
 have HN : Hid (((NN + 1 - rest.length : Nat) : Int) = (u.length : Int) + 1) := hide (by rw [hNN, hN0]; rfl)
 clear hNN
 have hsz : (0 : Int) < ((u ++ rest).length : Int) + 1 := by omega
 obtain ⟨cc, hcc⟩ : ∃ x : Int, x = (c.toNat : Int) := ⟨_, rfl⟩
 have hc0 : (((BA (c :: (u ++ rest)))[0]'(by simp)).toNat : Int) = cc := hcc.symm
 have hcr := byte_range c
 have hb92 : (cc == 92) = false := by rw [hcc, hc39]; rfl
 have hb39 : (cc == 39) = true := by rw [hcc, hc39]; rfl
 have hal : ((u.length : Int) + 1 == 1) = false := by rw [beq_eq_false_iff_ne]; have := List.length_pos_iff.2 hu; omega
 have hwr : IntKind.i64.wrap ((u.length : Int) + 1 - 1) = (u.length : Int) := by rw [IntKind.wrap_i64]; omega
 have hu1 : (1 : Int) ≤ (u.length : Int) := by have := List.length_pos_iff.2 hu; omega
 have hu2 : (u.length : Int) ≤ ((u.length : Int) + (rest.length : Int)) + 1 := by omega
 have HX := hide (ext1d c u rest hu)
 clear he h hr hcc hN0 hcr hc39 hu
 go_enter Tryz.func145, Tryz.ntmps145
 go_wp2_with fail
 refine (uh HPC _ (uh HE)).mono ?_
 rintro e w1 ⟨rfl, b1⟩
 have HB1 := hide b1
 have HE1 := hide ((uh HE).below (b1.mono (by omega)))
 have HH1 := hide ((uh HH).below b1)
 have hw1 : 6 < w1.heap.size := by have := b1.size; omega
 clear b1 HPC
 go_wp2_with fail
 rw [uh HX]
 refine (lit_any _ _ _).mono ?_
 rintro e w2 ⟨rfl, b2⟩
 have HB2 := hide b2
 clear b2
 go_wp2_with fail
 refine (add_plain _ b X ps 1 (BA u.dropLast) true 0 false ((uh HH1).below (uh HB2)) ⟨by have := (uh HR).1; simp at *; omega, by have := (uh HR).2; simp at *; omega⟩).mono ?_
 rintro e w3 ⟨rfl, a3⟩
 go_wp2
 go_ret2
 refine ⟨ret_th (uh HN).symm rfl, ?_⟩
 exact (a3.of_below (uh HB2)).of_below (uh HB1)
theorem th_34 {N : Nat} (hW : WordN N) (k : Nat) (c : UInt8) (u rest : List UInt8) (w : World) (b : Nat) (X : Nat → Prop) (ps : List Prt) (he : WEnv w) (hrN : (u ++ rest).length ≤ N) (hrl : (u ++ rest).length + 1 ≤ 4096) (h : LSt w b X ps) (hr : Room ps (2 * ((u ++ rest).length + 1) + 4)) (HPC : Hid (∀ W, WEnv W → Calls Tryz.prog 149 #[.int .i64 (k : Int), .string (BA (c :: (u ++ rest)))] W fun e w' => e = .returned (.tuple #[.int .i64 ((u.length : Int) + 1), .int .i64 0]) ∧ Below W.heap.size W w')) (hc34 : c = 34) (hu : u ≠ []) :
 Calls Tryz.prog 145 #[.int .i64 (k : Int), .string (BA (c :: (u ++ rest))), (.func (Fn.func 138) #[.pointer (some ⟨b, 0, none⟩)] #[])] w fun e w' => WThEnd (dqTh rest (rdC true 2 u.dropLast).word) (u ++ rest).length w b X ps e w' := by
 have h2w := he.two
 have HE := hide he
 have HH := hide h
 have HR := hide hr
 have hul : u.length ≤ 4096 := by simp at hrl; omega
 have hub : (u.length : Int) ≤ 4096 := by omega
 have hun : (u.length : Int) + 1 ≤ ((u.length : Int) + (rest.length : Int)) + 1 := by omega
 have hN0 : ((u ++ rest).length + 1 - rest.length : Nat) = u.length + 1 := by simp; omega
 obtain ⟨NN, hNN⟩ : ∃ x, x = (u ++ rest).length := ⟨_, rfl⟩
 rw [← hNN]
 have HN : Hid (((NN + 1 - rest.length : Nat) : Int) = (u.length : Int) + 1) := hide (by rw [hNN, hN0]; rfl)
 clear hNN
 have hsz : (0 : Int) < ((u ++ rest).length : Int) + 1 := by omega
 obtain ⟨cc, hcc⟩ : ∃ x : Int, x = (c.toNat : Int) := ⟨_, rfl⟩
 have hc0 : (((BA (c :: (u ++ rest)))[0]'(by simp)).toNat : Int) = cc := hcc.symm
 have hcr := byte_range c
 have hb92 : (cc == 92) = false := by rw [hcc, hc34]; rfl
 have hb39 : (cc == 39) = false := by rw [hcc, hc34]; rfl
 have hb34 : (cc == 34) = true := by rw [hcc, hc34]; rfl
 have hal : ((u.length : Int) + 1 == 1) = false := by rw [beq_eq_false_iff_ne]; have := List.length_pos_iff.2 hu; omega
 have hwr : IntKind.i64.wrap ((u.length : Int) + 1 - 1) = (u.length : Int) := by rw [IntKind.wrap_i64]; omega
 have hu1 : (1 : Int) ≤ (u.length : Int) := by have := List.length_pos_iff.2 hu; omega
 have hu2 : (u.length : Int) ≤ ((u.length : Int) + (rest.length : Int)) + 1 := by omega
 have HX := hide (ext1d c u rest hu)
 have HDQ : Hid (∀ W, WEnv W → LSt W b X ps → Calls Tryz.prog 152 #[.string (BA u.dropLast), (.func (Fn.func 138) #[.pointer (some ⟨b, 0, none⟩)] #[])] W fun e w' => DqEnd (rdC true 2 u.dropLast).word W b X ps e w') := hide (fun W hE hL => dquotes_any hW u.dropLast W b X ps hE (by simp at hrN ⊢; omega) (by simp; omega) hL ⟨by have := hr.1; simp at this ⊢; omega, by have := hr.2; simp at this ⊢; omega⟩)
 obtain ⟨R, hR⟩ : ∃ R, R = (rdC true 2 u.dropLast).word := ⟨_, rfl⟩
 rw [← hR] at HDQ ⊢
 clear hR
 obtain ⟨RES, hRES⟩ : ∃ x : Th, x = dqTh rest R := ⟨_, rfl⟩
 rw [← hRES]
 have HRES := hide hRES
 clear hRES
 clear he h hr hW hrN hcc hN0 hcr hc34 hu
 go_enter Tryz.func145, Tryz.ntmps145
 go_wp2_with fail
 refine (uh HPC _ (uh HE)).mono ?_
 rintro e w1 ⟨rfl, b1⟩
 have HB1 := hide b1
 have HE1 := hide ((uh HE).below (b1.mono (by omega)))
 have HH1 := hide ((uh HH).below b1)
 have hw1 : 6 < w1.heap.size := by have := b1.size; omega
 clear b1 HPC
 go_wp2_with fail
 rw [uh HX]
 refine (uh HDQ _ (uh HE1) (uh HH1)).mono ?_
 clear HDQ
 cases R with
 | err x =>
   rintro e w2 ⟨rfl, hx, g2⟩
   have HX2 := hide hx
   have HG2 := hide g2
   clear hx g2
   go_wp2
   go_ret2
   rw [uh HRES]
   exact ⟨_, rfl, uh HX2, (gsb (uh HB1)).trans (uh HG2)⟩
 | ok qs =>
   rintro e w2 ⟨rfl, a2⟩
   have HA2 := hide a2
   clear a2
   go_wp2
   go_ret2
   rw [uh HRES]
   exact ⟨ret_th (uh HN).symm rfl, (uh HA2).of_below (uh HB1)⟩
theorem th_36s (k : Nat) (rest : List UInt8) (w : World) (b : Nat) (X : Nat → Prop) (ps : List Prt) (he : WEnv w) (hk : k < 6) (hrl : rest.length + 1 ≤ 4096) (h : LSt w b X ps) (hr : Room ps (2 * (rest.length + 1) + 4)) (HPC : Hid (∀ W, WEnv W → Calls Tryz.prog 149 #[.int .i64 (k : Int), .string (BA (36 :: rest))] W fun e w' => e = .returned (.tuple #[.int .i64 1, .int .i64 0]) ∧ Below W.heap.size W w')) :
 Calls Tryz.prog 145 #[.int .i64 (k : Int), .string (BA (36 :: rest)), (.func (Fn.func 138) #[.pointer (some ⟨b, 0, none⟩)] #[])] w fun e w' => WThEnd (if nmdN rest = 0 then .ok [litP [36] true] rest else .ok [.mk 2 (rest.take (nmdN rest)) (allW k) 0 false []] (rest.drop (nmdN rest))) rest.length w b X ps e w' := by
 have h2w := he.two
 have HE := hide he
 have HH := hide h
 have HR := hide hr
 have hle := nmd_le rest
 have hc0 : (((BA (36 :: rest))[0]'(by simp)).toNat : Int) = 36 := rfl
 have hsz : (0 : Int) < (rest.length : Int) + 1 := by omega
 have hsz1 : (1 : Int) ≤ (rest.length : Int) + 1 := by omega
 have HX := hide (ext1e 36 rest)
 obtain ⟨n, hn⟩ : ∃ n, n = nmdN rest := ⟨_, rfl⟩
 have hnb : (n : Int) ≤ 4096 := by omega
 have HSH := hide (fun W hE hL => short_any k rest W b X ps hE hk (by omega) hL ⟨by have := hr.1; omega, by have := hr.2; omega⟩)
 rw [← hn] at HSH hle ⊢
 obtain ⟨RES, hRES⟩ : ∃ x : Th, x = (if n = 0 then .ok [litP [36] true] rest else .ok [.mk 2 (rest.take n) (allW k) 0 false []] (rest.drop n)) := ⟨_, rfl⟩
 rw [← hRES]
 have HRES := hide hRES
 clear hRES
 obtain ⟨ADD, hADD⟩ : ∃ x : Prt, x = (if n = 0 then litP [36] true else .mk 2 (rest.take n) (allW k) 0 false []) := ⟨_, rfl⟩
 rw [← hADD] at HSH
 have HADD := hide hADD
 clear he h hr hn hADD
 go_enter Tryz.func145, Tryz.ntmps145
 go_wp2_with fail
 refine (uh HPC _ (uh HE)).mono ?_
 rintro e w1 ⟨rfl, b1⟩
 have HB1 := hide b1
 have HE1 := hide ((uh HE).below (b1.mono (by omega)))
 have HH1 := hide ((uh HH).below b1)
 clear b1 HPC
 go_wp2_with fail
 rw [uh HX]
 refine (uh HSH _ (uh HE1) (uh HH1)).mono ?_
 rintro e w2 ⟨rfl, a2⟩
 have HA2 := hide (a2.of_below (uh HB1))
 clear a2
 go_wp2
 go_ret2
 rw [uh HRES]
 have ha := uh HA2
 rw [uh HADD] at ha
 by_cases h0 : n = 0
 ·rw [if_pos h0] at ha ⊢
  exact ⟨ret_th (by omega) rfl, ha⟩
 ·rw [if_neg h0] at ha ⊢
  exact ⟨ret_th (by simp; omega) rfl, ha⟩
theorem th_36 {N : Nat} (hW : WordN N) (k : Nat) (c : UInt8) (u rest : List UInt8) (w : World) (b : Nat) (X : Nat → Prop) (ps : List Prt) (he : WEnv w) (hk : k < 6) (hrN : (u ++ rest).length ≤ N) (hrl : (u ++ rest).length + 1 ≤ 4096) (h : LSt w b X ps) (hr : Room ps (2 * ((u ++ rest).length + 1) + 4)) (HPC : Hid (∀ W, WEnv W → Calls Tryz.prog 149 #[.int .i64 (k : Int), .string (BA (c :: (u ++ rest)))] W fun e w' => e = .returned (.tuple #[.int .i64 ((u.length : Int) + 1), .int .i64 0]) ∧ Below W.heap.size W w')) (hc36 : c = 36) (hu : u ≠ []) (hu2 : 2 ≤ u.length) :
 Calls Tryz.prog 145 #[.int .i64 (k : Int), .string (BA (c :: (u ++ rest))), (.func (Fn.func 138) #[.pointer (some ⟨b, 0, none⟩)] #[])] w fun e w' => WThEnd (lgTh k rest (lngL (rdC true) k u)) (u ++ rest).length w b X ps e w' := by
 have h2w := he.two
 have HE := hide he
 have HH := hide h
 have HR := hide hr
 have hul : u.length ≤ 4096 := by simp at hrl; omega
 have hub : (u.length : Int) ≤ 4096 := by omega
 have hun : (u.length : Int) + 1 ≤ ((u.length : Int) + (rest.length : Int)) + 1 := by omega
 have hN0 : ((u ++ rest).length + 1 - rest.length : Nat) = u.length + 1 := by simp; omega
 obtain ⟨NN, hNN⟩ : ∃ x, x = (u ++ rest).length := ⟨_, rfl⟩
 rw [← hNN]
 have HN : Hid (((NN + 1 - rest.length : Nat) : Int) = (u.length : Int) + 1) := hide (by rw [hNN, hN0]; rfl)
 clear hNN
 have hsz : (0 : Int) < ((u ++ rest).length : Int) + 1 := by omega
 obtain ⟨cc, hcc⟩ : ∃ x : Int, x = (c.toNat : Int) := ⟨_, rfl⟩
 have hc0 : (((BA (c :: (u ++ rest)))[0]'(by simp)).toNat : Int) = cc := hcc.symm
 have hcr := byte_range c
 have hb92 : (cc == 92) = false := by rw [hcc, hc36]; rfl
 have hb39 : (cc == 39) = false := by rw [hcc, hc36]; rfl
 have hb34 : (cc == 34) = false := by rw [hcc, hc36]; rfl
 have hb36 : (cc == 36) = true := by rw [hcc, hc36]; rfl
 have hal : ((u.length : Int) + 1 == 1) = false := by rw [beq_eq_false_iff_ne]; have := List.length_pos_iff.2 hu; omega
 have HX := hide (ext1 c u rest)
 have HLG : Hid (∀ W, WEnv W → LSt W b X ps → Calls Tryz.prog 154 #[.int .i64 (k : Int), .string (BA u), (.func (Fn.func 138) #[.pointer (some ⟨b, 0, none⟩)] #[])] W fun e w' => LgEnd (lngL (rdC true) k u) k W b X ps e w') := hide (fun W hE hL => long_any hW k u W b X ps hE hk hL hul hu2 ⟨by have := hr.1; simp at this ⊢; omega, by have := hr.2; simp at this ⊢; omega⟩ (by simp at hrN; omega))
 obtain ⟨R, hR⟩ : ∃ R, R = lngL (rdC true) k u := ⟨_, rfl⟩
 rw [← hR] at HLG ⊢
 clear hR
 obtain ⟨RES, hRES⟩ : ∃ x : Th, x = lgTh k rest R := ⟨_, rfl⟩
 rw [← hRES]
 have HRES := hide hRES
 clear hRES
 clear he h hr hW hrN hcc hN0 hcr hc36 hu
 go_enter Tryz.func145, Tryz.ntmps145
 go_wp2_with fail
 refine (uh HPC _ (uh HE)).mono ?_
 rintro e w1 ⟨rfl, b1⟩
 have HB1 := hide b1
 have HE1 := hide ((uh HE).below (b1.mono (by omega)))
 have HH1 := hide ((uh HH).below b1)
 have hw1 : 6 < w1.heap.size := by have := b1.size; omega
 clear b1 HPC
 go_wp2_with fail
 rw [uh HX]
 refine (uh HLG _ (uh HE1) (uh HH1)).mono ?_
 clear HLG
 cases R with
 | err x =>
   rintro e w2 ⟨rfl, hx, g2⟩
   have HX2 := hide hx
   have HG2 := hide g2
   clear hx g2
   go_wp2
   go_ret2
   rw [uh HRES]
   exact ⟨_, rfl, uh HX2, (gsb (uh HB1)).trans (uh HG2)⟩
 | ok p =>
   rintro e w2 ⟨rfl, a2⟩
   have HA2 := hide a2
   clear a2
   go_wp2
   go_ret2
   rw [uh HRES]
   exact ⟨ret_th (uh HN).symm rfl, (uh HA2).of_below (uh HB1)⟩
theorem th_meta {N : Nat} (k : Nat) (c : UInt8) (u rest : List UInt8) (w : World) (b : Nat) (X : Nat → Prop) (ps : List Prt) (he : WEnv w) (hk : k < 6) (hrN : (u ++ rest).length ≤ N) (hrl : (u ++ rest).length + 1 ≤ 4096) (h : LSt w b X ps) (hr : Room ps (2 * ((u ++ rest).length + 1) + 4)) (HPC : Hid (∀ W, WEnv W → Calls Tryz.prog 149 #[.int .i64 (k : Int), .string (BA (c :: (u ++ rest)))] W fun e w' => e = .returned (.tuple #[.int .i64 ((u.length : Int) + 1), .int .i64 0]) ∧ Below W.heap.size W w')) (hc92 : c ≠ 92) (h39 : ¬ (c = 39 ∧ u ≠ [])) (h34 : ¬ (c = 34 ∧ u ≠ [])) (hc36 : c ≠ 36) (hk0 : k = 0) (hme : metB (c.toNat : Int) = true) :
 Calls Tryz.prog 145 #[.int .i64 (k : Int), .string (BA (c :: (u ++ rest))), (.func (Fn.func 138) #[.pointer (some ⟨b, 0, none⟩)] #[])] w fun e w' => WThEnd (.err 10) (u ++ rest).length w b X ps e w' := by
 have h2w := he.two
 have HE := hide he
 have HH := hide h
 have HR := hide hr
 have hul : u.length ≤ 4096 := by simp at hrl; omega
 have hub : (u.length : Int) ≤ 4096 := by omega
 have hun : (u.length : Int) + 1 ≤ ((u.length : Int) + (rest.length : Int)) + 1 := by omega
 have hN0 : ((u ++ rest).length + 1 - rest.length : Nat) = u.length + 1 := by simp; omega
 obtain ⟨NN, hNN⟩ : ∃ x, x = (u ++ rest).length := ⟨_, rfl⟩
 rw [← hNN]
 have HN : Hid (((NN + 1 - rest.length : Nat) : Int) = (u.length : Int) + 1) := hide (by rw [hNN, hN0]; rfl)
 clear hNN
 have hsz : (0 : Int) < ((u ++ rest).length : Int) + 1 := by omega
 obtain ⟨cc, hcc⟩ : ∃ x : Int, x = (c.toNat : Int) := ⟨_, rfl⟩
 have hc0 : (((BA (c :: (u ++ rest)))[0]'(by simp)).toNat : Int) = cc := hcc.symm
 have hcr := byte_range c
 have hb92 : (cc == 92) = false := by rw [beq_eq_false_iff_ne, hcc]; exact fun e => hc92 (UInt8.toNat_inj.1 (show c.toNat = 92 by omega))
 have hb36 : (cc == 36) = false := by rw [beq_eq_false_iff_ne, hcc]; exact fun e => hc36 (UInt8.toNat_inj.1 (show c.toNat = 36 by omega))
 have hq39 : (cc == 39) = false ∨ ((cc == 39) = true ∧ ((u.length : Int) + 1 == 1) = true) := by
  by_cases e : c = 39
  ·right
   have hu : u = [] := by
    cases u with
    | nil => rfl
    | cons _ _ => exact absurd ⟨e, by simp⟩ h39
   exact ⟨by rw [hcc, e]; rfl, by rw [hu]; rfl⟩
  ·left; rw [beq_eq_false_iff_ne, hcc]; exact fun e' => e (UInt8.toNat_inj.1 (show c.toNat = 39 by omega))
 have hq34 : (cc == 34) = false ∨ ((cc == 34) = true ∧ ((u.length : Int) + 1 == 1) = true) := by
  by_cases e : c = 34
  ·right
   have hu : u = [] := by
    cases u with
    | nil => rfl
    | cons _ _ => exact absurd ⟨e, by simp⟩ h34
   exact ⟨by rw [hcc, e]; rfl, by rw [hu]; rfl⟩
  ·left; rw [beq_eq_false_iff_ne, hcc]; exact fun e' => e (UInt8.toNat_inj.1 (show c.toNat = 34 by omega))
 have HME := hide (fun W => meta_any (c.toNat : Int) W hcr.1 hcr.2)
 rw [hme, ← hcc] at HME
 subst hk0
 clear hc92 h39 h34 hc36 hme
 clear he h hr hrN hcc hN0 hcr
 go_enter Tryz.func145, Tryz.ntmps145
 go_wp2_with fail
 refine (uh HPC _ (uh HE)).mono ?_
 rintro e w1 ⟨rfl, b1⟩
 have HB1 := hide b1
 have HE1 := hide ((uh HE).below (b1.mono (by omega)))
 have HH1 := hide ((uh HH).below b1)
 have hw1 : 6 < w1.heap.size := by have := b1.size; omega
 clear b1 HPC
 rcases hq39 with hq39 | ⟨hq39, hal39⟩
 all_goals rcases hq34 with hq34 | ⟨hq34, hal34⟩
 all_goals
  go_wp2_with fail
  refine (uh HME _).mono ?_
  rintro e w2 ⟨rfl, b2⟩
  have HB2 := hide b2
  clear b2
  go_wp2
  go_ret2
  exact ⟨_, rfl, by decide, (gsb (uh HB1)).trans (gsb (uh HB2))⟩
theorem th_defk (k : Nat) (c : UInt8) (u rest : List UInt8) (w : World) (b : Nat) (X : Nat → Prop) (ps : List Prt) (he : WEnv w) (hk : k < 6) (hrl : (u ++ rest).length + 1 ≤ 4096) (h : LSt w b X ps) (hr : Room ps (2 * ((u ++ rest).length + 1) + 4)) (HPC : Hid (∀ W, WEnv W → Calls Tryz.prog 149 #[.int .i64 (k : Int), .string (BA (c :: (u ++ rest)))] W fun e w' => e = .returned (.tuple #[.int .i64 ((u.length : Int) + 1), .int .i64 0]) ∧ Below W.heap.size W w')) (hb3 : 7 ≤ b) (hc92 : c ≠ 92) (h39 : ¬ (c = 39 ∧ u ≠ [])) (h34 : ¬ (c = 34 ∧ u ≠ [])) (hc36 : c ≠ 36) (hk0 : k ≠ 0) :
 Calls Tryz.prog 145 #[.int .i64 (k : Int), .string (BA (c :: (u ++ rest))), (.func (Fn.func 138) #[.pointer (some ⟨b, 0, none⟩)] #[])] w fun e w' => WThEnd (.ok [litP [c] (allW k)] rest) (u ++ rest).length w b X ps e w' := by
 have h2w := he.two
 have HE := hide he
 have HH := hide h
 have HR := hide hr
 have hul : u.length ≤ 4096 := by simp at hrl; omega
 have hub : (u.length : Int) ≤ 4096 := by omega
 have hun : (u.length : Int) + 1 ≤ ((u.length : Int) + (rest.length : Int)) + 1 := by omega
 have hN0 : ((u ++ rest).length + 1 - rest.length : Nat) = u.length + 1 := by simp; omega
 obtain ⟨NN, hNN⟩ : ∃ x, x = (u ++ rest).length := ⟨_, rfl⟩
 rw [← hNN]
 have HN : Hid (((NN + 1 - rest.length : Nat) : Int) = (u.length : Int) + 1) := hide (by rw [hNN, hN0]; rfl)
 clear hNN
 have hsz : (0 : Int) < ((u ++ rest).length : Int) + 1 := by omega
 obtain ⟨cc, hcc⟩ : ∃ x : Int, x = (c.toNat : Int) := ⟨_, rfl⟩
 have hc0 : (((BA (c :: (u ++ rest)))[0]'(by simp)).toNat : Int) = cc := hcc.symm
 have hcr := byte_range c
 have hb92 : (cc == 92) = false := by rw [beq_eq_false_iff_ne, hcc]; exact fun e => hc92 (UInt8.toNat_inj.1 (show c.toNat = 92 by omega))
 have hb36 : (cc == 36) = false := by rw [beq_eq_false_iff_ne, hcc]; exact fun e => hc36 (UInt8.toNat_inj.1 (show c.toNat = 36 by omega))
 have hq39 : (cc == 39) = false ∨ ((cc == 39) = true ∧ ((u.length : Int) + 1 == 1) = true) := by
  by_cases e : c = 39
  ·right
   have hu : u = [] := by
    cases u with
    | nil => rfl
    | cons _ _ => exact absurd ⟨e, by simp⟩ h39
   exact ⟨by rw [hcc, e]; rfl, by rw [hu]; rfl⟩
  ·left; rw [beq_eq_false_iff_ne, hcc]; exact fun e' => e (UInt8.toNat_inj.1 (show c.toNat = 39 by omega))
 have hq34 : (cc == 34) = false ∨ ((cc == 34) = true ∧ ((u.length : Int) + 1 == 1) = true) := by
  by_cases e : c = 34
  ·right
   have hu : u = [] := by
    cases u with
    | nil => rfl
    | cons _ _ => exact absurd ⟨e, by simp⟩ h34
   exact ⟨by rw [hcc, e]; rfl, by rw [hu]; rfl⟩
  ·left; rw [beq_eq_false_iff_ne, hcc]; exact fun e' => e (UInt8.toNat_inj.1 (show c.toNat = 34 by omega))
 have hk00 : ((k : Int) == 0) = false := by rw [beq_eq_false_iff_ne]; omega
 have HX := hide (ext01 c (u ++ rest))
 have hsz1 : (1 : Int) ≤ ((u ++ rest).length : Int) + 1 := by omega
 have hsz2 : (1 : Int) ≤ ((u.length : Int) + (rest.length : Int)) + 1 := by omega
 have hk6 : (k : Int) < 6 := by omega
 clear hc92 h39 h34 hc36
 clear he h hr hcc hN0 hcr
 go_enter Tryz.func145, Tryz.ntmps145
 go_wp2_with fail
 refine (uh HPC _ (uh HE)).mono ?_
 rintro e w1 ⟨rfl, b1⟩
 have HB1 := hide b1
 have HE1 := hide ((uh HE).below (b1.mono (by omega)))
 have HH1 := hide ((uh HH).below b1)
 have hw1 : 6 < w1.heap.size := by have := b1.size; omega
 clear b1 HPC
 rcases hq39 with hq39 | ⟨hq39, hal39⟩
 all_goals rcases hq34 with hq34 | ⟨hq34, hal34⟩
 all_goals
  have HB2 := HB1
  have HE2 := HE1
  have HH2 := HH1
  go_wp2_with fail
  refine wp_region_held_drew (S := fun w' => w'.cell? ⟨5, k * 4 + 2, none⟩ = some (.bool (allW k))) (by kernel_rfl) (by exact (uh HE2).r2 k hk) (fun hHeld => ?_)
  refine tk 0 (v := ?_) ?_ ?_
  rotate_left
  ·intro w hSw; (try dsimp only at hSw); go_simp; (try with_reducible rfl)
  go_frame
  refine tk 1 (v := ?_) ?_ ?_
  rotate_left
  ·intro w hSw; (try dsimp only at hSw); go_simp; (try with_reducible rfl)
  go_frame
  refine tk 2 (v := ?_) ?_ ?_
  rotate_left
  ·intro w hSw; (try dsimp only at hSw); go_simp; (try with_reducible rfl)
  go_frame
  refine tk 3 (v := ?_) ?_ ?_
  rotate_left
  ·intro w hSw; (try dsimp only at hSw); go_simp; (try with_reducible rfl)
  go_frame
  refine tk 4 (v := ?_) ?_ ?_
  rotate_left
  ·intro w hSw; (try dsimp only at hSw); go_simp; (try with_reducible rfl)
  go_frame
  refine tk 5 (v := ?_) ?_ ?_
  rotate_left
  ·intro w hSw; (try dsimp only at hSw); go_simp; (try with_reducible rfl)
  go_frame
  refine tk 6 (v := ?_) ?_ ?_
  rotate_left
  ·intro w hSw; (try dsimp only at hSw); go_simp; (try with_reducible rfl)
  go_frame
  refine rd1 7 (fun KK hKK => ?_)
  go_simp
  refine (lit_any _ _ _).mono ?_
  rintro e w3 ⟨rfl, b3⟩
  have HB3 := hide ((bdr _ 1).trans (b3.mono (ler _)))
  have HE3 := hide ((uh HE2).below ((uh HB3).mono (by omega)))
  clear b3
  refine hKK.out _ _ (by exact (uh HE3).r2 k hk) (fun hHeld => ?_)
  clear hKK KK
  try go_frame
  refine rd1 8 (fun KK hKK => ?_)
  go_simp
  rw [uh HX]
  refine (add_plain _ b X ps 1 (BA [c]) _ 0 false ((uh HH2).below (uh HB3)) ⟨by have := (uh HR).1; show _ + 1 ≤ _; omega, by have := (uh HR).2; show _ + 1 ≤ _; omega⟩).mono ?_
  rintro e w4 ⟨rfl, a4⟩
  have HA4 := hide a4
  have HE4 : Hid (WEnv w4) := hide (by obtain ⟨X4, _, g4, _⟩ := a4; exact (uh HE3).grown g4 (fun k hk => by have := (uh HH2).lo k hk; omega))
  clear a4
  refine hKK.out _ _ (by exact (uh HE4).r2 k hk) (fun hHeld => ?_)
  clear hKK KK
  try go_frame
  clear hHeld
  refine wpAnyH_done (by kernel_rfl) ?_ _
  go_wp2
  go_ret2
  exact ⟨ret_th (uh HN).symm rfl, ((uh HA4).of_below (uh HB3)).of_below (uh HB2)⟩
theorem th_def0 (k : Nat) (c : UInt8) (u rest : List UInt8) (w : World) (b : Nat) (X : Nat → Prop) (ps : List Prt) (he : WEnv w) (hk : k < 6) (hrl : (u ++ rest).length + 1 ≤ 4096) (h : LSt w b X ps) (hr : Room ps (2 * ((u ++ rest).length + 1) + 4)) (HPC : Hid (∀ W, WEnv W → Calls Tryz.prog 149 #[.int .i64 (k : Int), .string (BA (c :: (u ++ rest)))] W fun e w' => e = .returned (.tuple #[.int .i64 ((u.length : Int) + 1), .int .i64 0]) ∧ Below W.heap.size W w')) (hb3 : 7 ≤ b) (hc92 : c ≠ 92) (h39 : ¬ (c = 39 ∧ u ≠ [])) (h34 : ¬ (c = 34 ∧ u ≠ [])) (hc36 : c ≠ 36) (hk0 : k = 0) (hme : metB (c.toNat : Int) = false) :
 Calls Tryz.prog 145 #[.int .i64 (k : Int), .string (BA (c :: (u ++ rest))), (.func (Fn.func 138) #[.pointer (some ⟨b, 0, none⟩)] #[])] w fun e w' => WThEnd (.ok [litP [c] (allW 0)] rest) (u ++ rest).length w b X ps e w' := by
 have h2w := he.two
 have HE := hide he
 have HH := hide h
 have HR := hide hr
 have hul : u.length ≤ 4096 := by simp at hrl; omega
 have hub : (u.length : Int) ≤ 4096 := by omega
 have hun : (u.length : Int) + 1 ≤ ((u.length : Int) + (rest.length : Int)) + 1 := by omega
 have hN0 : ((u ++ rest).length + 1 - rest.length : Nat) = u.length + 1 := by simp; omega
 obtain ⟨NN, hNN⟩ : ∃ x, x = (u ++ rest).length := ⟨_, rfl⟩
 rw [← hNN]
 have HN : Hid (((NN + 1 - rest.length : Nat) : Int) = (u.length : Int) + 1) := hide (by rw [hNN, hN0]; rfl)
 clear hNN
 have hsz : (0 : Int) < ((u ++ rest).length : Int) + 1 := by omega
 obtain ⟨cc, hcc⟩ : ∃ x : Int, x = (c.toNat : Int) := ⟨_, rfl⟩
 have hc0 : (((BA (c :: (u ++ rest)))[0]'(by simp)).toNat : Int) = cc := hcc.symm
 have hcr := byte_range c
 have hb92 : (cc == 92) = false := by rw [beq_eq_false_iff_ne, hcc]; exact fun e => hc92 (UInt8.toNat_inj.1 (show c.toNat = 92 by omega))
 have hb36 : (cc == 36) = false := by rw [beq_eq_false_iff_ne, hcc]; exact fun e => hc36 (UInt8.toNat_inj.1 (show c.toNat = 36 by omega))
 have hq39 : (cc == 39) = false ∨ ((cc == 39) = true ∧ ((u.length : Int) + 1 == 1) = true) := by
  by_cases e : c = 39
  ·right
   have hu : u = [] := by
    cases u with
    | nil => rfl
    | cons _ _ => exact absurd ⟨e, by simp⟩ h39
   exact ⟨by rw [hcc, e]; rfl, by rw [hu]; rfl⟩
  ·left; rw [beq_eq_false_iff_ne, hcc]; exact fun e' => e (UInt8.toNat_inj.1 (show c.toNat = 39 by omega))
 have hq34 : (cc == 34) = false ∨ ((cc == 34) = true ∧ ((u.length : Int) + 1 == 1) = true) := by
  by_cases e : c = 34
  ·right
   have hu : u = [] := by
    cases u with
    | nil => rfl
    | cons _ _ => exact absurd ⟨e, by simp⟩ h34
   exact ⟨by rw [hcc, e]; rfl, by rw [hu]; rfl⟩
  ·left; rw [beq_eq_false_iff_ne, hcc]; exact fun e' => e (UInt8.toNat_inj.1 (show c.toNat = 34 by omega))
 have HME := hide (fun W => meta_any (c.toNat : Int) W hcr.1 hcr.2)
 rw [hme, ← hcc] at HME
 subst hk0
 clear hme
 have HX := hide (ext01 c (u ++ rest))
 have hsz1 : (1 : Int) ≤ ((u ++ rest).length : Int) + 1 := by omega
 have hsz2 : (1 : Int) ≤ ((u.length : Int) + (rest.length : Int)) + 1 := by omega
 have hk6 : (0 : Int) < 6 := by omega
 clear hc92 h39 h34 hc36
 clear he h hr hcc hN0 hcr
 go_enter Tryz.func145, Tryz.ntmps145
 go_wp2_with fail
 refine (uh HPC _ (uh HE)).mono ?_
 rintro e w1 ⟨rfl, b1⟩
 have HB1 := hide b1
 have HE1 := hide ((uh HE).below (b1.mono (by omega)))
 have HH1 := hide ((uh HH).below b1)
 have hw1 : 6 < w1.heap.size := by have := b1.size; omega
 clear b1 HPC
 rcases hq39 with hq39 | ⟨hq39, hal39⟩
 all_goals rcases hq34 with hq34 | ⟨hq34, hal34⟩
 all_goals
  go_wp2_with fail
  refine (uh HME _).mono ?_
  rintro e w2 ⟨rfl, b2⟩
  have HB2 := hide ((uh HB1).trans (b2.mono (uh HB1).size))
  have HE2 := hide ((uh HE1).below (b2.mono (by omega)))
  have HH2 := hide ((uh HH1).below b2)
  have hw2s : 6 < w2.heap.size := by have := b2.size; omega
  clear b2
  go_wp2_with fail
  refine wp_region_held_drew (S := fun w' => w'.cell? ⟨5, 0 * 4 + 2, none⟩ = some (.bool (allW 0))) (by kernel_rfl) (by exact (uh HE2).r2 0 hk) (fun hHeld => ?_)
  refine tk 0 (v := ?_) ?_ ?_
  rotate_left
  ·intro w hSw; (try dsimp only at hSw); go_simp; (try with_reducible rfl)
  go_frame
  refine tk 1 (v := ?_) ?_ ?_
  rotate_left
  ·intro w hSw; (try dsimp only at hSw); go_simp; (try with_reducible rfl)
  go_frame
  refine tk 2 (v := ?_) ?_ ?_
  rotate_left
  ·intro w hSw; (try dsimp only at hSw); go_simp; (try with_reducible rfl)
  go_frame
  refine tk 3 (v := ?_) ?_ ?_
  rotate_left
  ·intro w hSw; (try dsimp only at hSw); go_simp; (try with_reducible rfl)
  go_frame
  refine tk 4 (v := ?_) ?_ ?_
  rotate_left
  ·intro w hSw; (try dsimp only at hSw); go_simp; (try with_reducible rfl)
  go_frame
  refine tk 5 (v := ?_) ?_ ?_
  rotate_left
  ·intro w hSw; (try dsimp only at hSw); go_simp; (try with_reducible rfl)
  go_frame
  refine tk 6 (v := ?_) ?_ ?_
  rotate_left
  ·intro w hSw; (try dsimp only at hSw); go_simp; (try with_reducible rfl)
  go_frame
  refine rd1 7 (fun KK hKK => ?_)
  go_simp
  refine (lit_any _ _ _).mono ?_
  rintro e w3 ⟨rfl, b3⟩
  have HB3 := hide ((bdr _ 1).trans (b3.mono (ler _)))
  have HE3 := hide ((uh HE2).below ((uh HB3).mono (by omega)))
  clear b3
  refine hKK.out _ _ (by exact (uh HE3).r2 0 hk) (fun hHeld => ?_)
  clear hKK KK
  try go_frame
  refine rd1 8 (fun KK hKK => ?_)
  go_simp
  rw [uh HX]
  refine (add_plain _ b X ps 1 (BA [c]) _ 0 false ((uh HH2).below (uh HB3)) ⟨by have := (uh HR).1; show _ + 1 ≤ _; omega, by have := (uh HR).2; show _ + 1 ≤ _; omega⟩).mono ?_
  rintro e w4 ⟨rfl, a4⟩
  have HA4 := hide a4
  have HE4 : Hid (WEnv w4) := hide (by obtain ⟨X4, _, g4, _⟩ := a4; exact (uh HE3).grown g4 (fun k hk => by have := (uh HH2).lo k hk; omega))
  clear a4
  refine hKK.out _ _ (by exact (uh HE4).r2 0 hk) (fun hHeld => ?_)
  clear hKK KK
  try go_frame
  clear hHeld
  refine wpAnyH_done (by kernel_rfl) ?_ _
  go_wp2
  go_ret2
  exact ⟨ret_th (uh HN).symm rfl, ((uh HA4).of_below (uh HB3)).of_below (uh HB2)⟩
theorem thg_92 {f : Nat} {r rest : List UInt8} {wh d : Nat} (h : thg (f + 1) (92 :: r) wh d = .ok rest) : rest = r.drop 1 := by
 rw [thg_succ, if_pos rfl] at h
 cases h
 rfl
theorem thg_36 {u rest : List UInt8} {wh d : Nat} (h : thg (3 * ((u ++ rest).length + 1) + 3) (36 :: (u ++ rest)) wh d = .ok rest) (hu : u ≠ []) : 2 ≤ u.length := by
 rw [show 3 * ((u ++ rest).length + 1) + 3 = (3 * ((u ++ rest).length + 1) + 2) + 1 by omega, thg_succ, if_neg (by decide), if_neg (by decide), if_neg (by decide), if_pos rfl] at h
 have hpos := List.length_pos_iff.2 hu
 have key : ∀ (fr : List UInt8) (e : UInt8) (wh' : Nat), cls (3 * ((u ++ rest).length + 1) + 2) ((u ++ rest).drop 1) fr e wh' d = .ok rest → 2 ≤ u.length := by
  intro fr e wh' hc
  rw [show 3 * ((u ++ rest).length + 1) + 2 = (3 * ((u ++ rest).length + 1) + 1) + 1 by omega, cls_succ] at hc
  split at hc
  ·cases hc
  ·have := lop_lt _ (show lop (3 * ((u ++ rest).length + 1) + 0 + 1) _ _ _ _ _ = _ from hc) (by simp; omega)
   simp at this
   omega
 split at h
 ·exact key _ _ _ h
 split at h
 ·exact key _ _ _ h
 ·have h1 : u ++ rest = rest := by injection h
  have := congrArg List.length h1
  simp at this
  exact absurd this hu
theorem th_err (k : Nat) (c : UInt8) (r : List UInt8) (x : Int) (w : World) (b : Nat) (X : Nat → Prop) (ps : List Prt) (n : Nat) (hx : x ≠ 0) (he : WEnv w) (HPC : Hid (∀ W, WEnv W → Calls Tryz.prog 149 #[.int .i64 (k : Int), .string (BA (c :: r))] W fun e w' => e = .returned (.tuple #[.int .i64 0, .int .i64 x]) ∧ Below W.heap.size W w')) :
 Calls Tryz.prog 145 #[.int .i64 (k : Int), .string (BA (c :: r)), (.func (Fn.func 138) #[.pointer (some ⟨b, 0, none⟩)] #[])] w fun e w' => WThEnd (.err x) n w b X ps e w' := by
 have hx1 : (x != 0) = true := by simpa using hx
 have HX := hide hx
 have HE := hide he
 clear hx he
 go_enter Tryz.func145, Tryz.ntmps145
 go_wp2_with fail
 refine (uh HPC _ (uh HE)).mono ?_
 rintro e w1 ⟨rfl, b1⟩
 have HB := hide b1
 clear b1
 go_wp2
 go_ret2
 exact ⟨_, rfl, uh HX, gsb (uh HB)⟩
theorem thing_any {N : Nat} (hW : WordN N) (k : Nat) (c : UInt8) (r : List UInt8) (w : World) (b : Nat) (X : Nat → Prop) (ps : List Prt) (he : WEnv w) (hb3 : 7 ≤ b) (hk : k < 6) (hrN : r.length ≤ N) (hrl : r.length + 1 ≤ 4096) (h : LSt w b X ps) (hr : Room ps (2 * (r.length + 1) + 4)) :
 Calls Tryz.prog 145 #[.int .i64 (k : Int), .string (BA (c :: r)), (.func (Fn.func 138) #[.pointer (some ⟨b, 0, none⟩)] #[])] w fun e w' => WThEnd (thiL true (rdC true) k c r) r.length w b X ps e w' := by
 have hP : ∀ W, WEnv W → Calls Tryz.prog 149 #[.int .i64 (k : Int), .string (BA (c :: r))] W fun e w' => e = .returned (.tuple #[.int .i64 (pcOf (r.length + 1) (thg (3 * (r.length + 1) + 3) (c :: r) (if flagW true k c then 1 else 0) 0)).1, .int .i64 (pcOf (r.length + 1) (thg (3 * (r.length + 1) + 3) (c :: r) (if flagW true k c then 1 else 0) 0)).2.2]) ∧ Below W.heap.size W w' := fun W hE => by
  have := wpiece_any k (BA (c :: r)) W hE hk (by simp) (by simp; omega)
  rw [pieceS_of _ _ (by simp)] at this
  exact this
 unfold thiL
 cases hT : thg (3 * (r.length + 1) + 3) (c :: r) (if flagW true k c then 1 else 0) 0 with
 | err x m =>
   rw [hT] at hP
   have hx : NZ (.err x m) := by rw [← hT]; exact (c_nz _).2.2 _ _ _
   exact th_err k c r x w b X ps r.length hx he (hide hP)
 | ok rest =>
   rw [hT] at hP
   obtain ⟨u, rfl⟩ := thi_split (F := 3 * (r.length + 1)) hT
   have hP' : Hid (∀ W, WEnv W → Calls Tryz.prog 149 #[.int .i64 (k : Int), .string (BA (c :: (u ++ rest)))] W fun e w' => e = .returned (.tuple #[.int .i64 ((u.length : Int) + 1), .int .i64 0]) ∧ Below W.heap.size W w') := hide (fun W hE => by
    have := hP W hE
    have e : (((u ++ rest).length + 1 - rest.length : Nat) : Int) = (u.length : Int) + 1 := by simp; omega
    simp only [pcOf] at this
    rw [e] at this
    exact this)
   simp only
   rw [show (u ++ rest).take ((u ++ rest).length - rest.length) = u by simp]
   unfold thnL
   split
   ·next hc =>
    subst hc
    exact th_92 k 92 u rest w b X ps he hk hrl h hr hP' rfl (by
     have := congrArg List.length (thg_92 hT)
     simp at this
     omega)
   next h92 =>
   split
   ·next hc => exact th_39 k c u rest w b X ps he hrl h hr hP' hc.1 hc.2
   next h39 =>
   split
   ·next hc =>
    have := th_34 hW k c u rest w b X ps he hrN hrl h hr hP' hc.1 hc.2
    cases hR : (rdC true 2 u.dropLast).word <;> (rw [hR] at this; exact this)
   next h34 =>
   split
   ·next hc =>
    obtain ⟨rfl, rfl⟩ := hc
    exact th_36s k rest w b X ps he hk hrl h hr hP'
   next h36s =>
   split
   ·next hc =>
    subst hc
    have hu : u ≠ [] := fun e => h36s ⟨rfl, e⟩
    have := th_36 hW k 36 u rest w b X ps he hk hrN hrl h hr hP' rfl hu (thg_36 hT hu)
    cases hR : lngL (rdC true) k u <;> (rw [hR] at this; exact this)
   next h36 =>
   split
   ·next hc => exact th_meta k c u rest w b X ps he hk hrN hrl h hr hP' h92 h39 h34 h36 hc.1 hc.2
   ·next hc =>
    by_cases hk0 : k = 0
    ·have hm : metB (c.toNat : Int) = false := by
      cases hm : metB (c.toNat : Int) with
      | true => exact absurd ⟨hk0, hm⟩ hc
      | false => rfl
     subst hk0
     exact th_def0 0 c u rest w b X ps he hk hrl h hr hP' hb3 h92 h39 h34 h36 rfl hm
    ·exact th_defk k c u rest w b X ps he hk hrl h hr hP' hb3 h92 h39 h34 h36 hk0
def strOf : Value → ByteArray
 | .string s => s
 | _ => ⟨#[]⟩
theorem thi_suf {rd : Nat → List UInt8 → Rd} {k : Nat} {c : UInt8} {r : List UInt8} {ps : List Prt} {rest : List UInt8} (h : thiL true rd k c r = .ok ps rest) : (c :: r).drop (r.length + 1 - rest.length) = rest := by
 unfold thiL at h
 cases ht : thg (3 * (r.length + 1) + 3) (c :: r) (if flagW true k c then 1 else 0) 0 with
 | err e m => rw [ht] at h; cases h
 | ok rs =>
   rw [ht] at h
   obtain ⟨u, rfl⟩ := thi_split (F := 3 * (r.length + 1)) ht
   have key : ∀ m, (c :: (u ++ rs)).drop ((u ++ rs).length + 1 - (rs.drop m).length) = rs.drop m := by
    intro m
    rcases Nat.lt_or_ge m rs.length with hm | hm
    ·rw [show (u ++ rs).length + 1 - (rs.drop m).length = u.length + m + 1 by simp; omega, List.drop_succ_cons, List.drop_append, List.drop_eq_nil_of_le (by omega), Nat.add_sub_cancel_left, List.nil_append]
    ·rw [List.drop_eq_nil_of_le hm, List.drop_eq_nil_of_le (by simp)]
   have key0 : (c :: (u ++ rs)).drop ((u ++ rs).length + 1 - rs.length) = rs := by have := key 0; simpa using this
   simp only at h
   unfold thnL at h
   repeat' split at h
   all_goals first
    | (cases h; done)
    | (cases h; exact key0)
    | (cases h; exact key _)
theorem pre_pre (a b : List Prt) (r : Rd) : (r.pre b).pre a = r.pre (a ++ b) := by
 cases r with
 | err e => rfl
 | ok qs => simp [Rd.pre]
theorem read_step {N : Nat} (hW : WordN N) : ReadN (N + 1) := by
 intro k l w b X ps he hb3 hk hN hl h hr
 have hbw := h.lt
 have HE := hide he
 have HH := hide h
 have HR := hide hr
 have HLO := hide h.lo
 have HWW := hide hW
 clear he h hr hW
 go_enter Tryz.func137, Tryz.ntmps137
 go_wp2_with fail
 go_loopw [1] (fun t wr => ∃ l' evs, t = .string (BA l') ∧ l'.length ≤ l.length ∧ Hid (rdC true k l = (rdC true k l').pre evs ∧ Few (l.length - l'.length) evs) ∧ Hid (Adds w b X (evs.foldl addP ps) wr)) (fun t _ => (strOf t).size)
 case atStart => exact ⟨l, [], rfl, ler _, hide ⟨by cases rdC true k l <;> rfl, by simp [Few, tlen]⟩, hide (Adds.refl (uh HH))⟩
 case round =>
  obtain ⟨l', evs, rfl, hll, HQ, HA⟩ := hrel
  cases l' with
  | nil =>
    have t2 : (BA []).toList.isEmpty = true := by rw [BA_toList]; rfl
    go_wp2
    go_ret
    have h1 := (uh HQ).1
    rw [rdC_nil] at h1
    unfold RdEnd
    rw [h1]
    simp only [Rd.pre, List.append_nil]
    exact ⟨rfl, uh HA⟩
  | cons c r =>
    have t2 : (BA (c :: r)).toList.isEmpty = false := by rw [BA_toList]; rfl
    have hrl : r.length + 1 ≤ l.length := by simpa using hll
    obtain ⟨X1, hS, hG, hX1⟩ := uh HA
    have hE1 : WEnv wr := (uh HE).grown hG (fun k hk => by have := uh HLO k hk; omega)
    have hfo := fold_few evs ps
    have hfe := (uh HQ).2
    have hRm := uh HR
    have hroom : Room (evs.foldl addP ps) (2 * (r.length + 1) + 4) := ⟨by have := hRm.1; have := hfe.1; simp at this; omega, by have := hRm.2; have := hfe.2; simp at this; omega⟩
    have HT := hide (thing_any (uh HWW) k c r wr b X1 (evs.foldl addP ps) hE1 hb3 hk (by omega) (by omega) hS hroom)
    have hsuf := fun ps' rest' => thi_suf (rd := rdC true) (k := k) (c := c) (r := r) (ps := ps') (rest := rest')
    have hrs := fun ps' rest' => thi_rest (b := true) (rd := rdC true) (w := k) (c := c) (r := r) (ps := ps') (rest := rest')
    have hfw := fun ps' rest' (h : thiL true (rdC true) k c r = .ok ps' rest') => thi_few (fun t ht => rdC_few true _ 2 t (ler _)) h
    have hok := fun ps' rest' (h : thiL true (rdC true) k c r = .ok ps' rest') => rdC_ok h
    have her := fun x (h : thiL true (rdC true) k c r = .err x) => rdC_err h
    obtain ⟨T, hT⟩ : ∃ T, T = thiL true (rdC true) k c r := ⟨_, rfl⟩
    rw [← hT] at HT hsuf hrs hfw hok her
    have HG := hide hG
    have HX1 := hide hX1
    clear hS hG hX1 hE1 hfo hfe hRm hroom hT HE HH HA
    cases T with
    | err x =>
      have HER : Hid (rdC true k l = .err x) := hide (by rw [(uh HQ).1, her x rfl]; rfl)
      clear hsuf hrs hfw hok her HQ
      go_wp2_with fail
      refine (uh HT).mono ?_
      rintro e w2 ⟨z, rfl, hx, g2⟩
      have hx1 : (x != 0) = true := by simpa using hx
      have HXX := hide hx
      have HG2 := hide ((uh HG).trans2 g2 (fun k hk e => by
       rcases uh HX1 k e with e | e
       ·exact e
       ·omega))
      clear hx g2 HT
      go_wp2
      go_ret
      unfold RdEnd
      rw [uh HER]
      exact ⟨rfl, uh HXX, uh HG2⟩
    | ok evs' rest =>
      have h1 := hsuf evs' rest rfl
      have h2 := hrs evs' rest rfl
      have HNX : Hid (rdC true k l = (rdC true k rest).pre (evs ++ evs') ∧ Few (l.length - rest.length) (evs ++ evs')) := hide ⟨by rw [(uh HQ).1, hok evs' rest rfl, pre_pre], few_add (uh HQ).2 (hfw evs' rest rfl) (by simp; omega)⟩
      obtain ⟨n, hn⟩ : ∃ n, n = r.length + 1 - rest.length := ⟨_, rfl⟩
      have HX : Hid ((BA (c :: r)).extract n (r.length + 1) = BA rest) := hide (by
       have := extract_end (BA (c :: r)) n
       rw [show (BA (c :: r)).data.toList = c :: r from rfl, hn, h1] at this
       rw [hn]
       simpa using this)
      have HT' : Hid (Calls Tryz.prog 145 _ wr fun e w' => e = .returned (.tuple #[.int .i64 (n : Int), .int .i64 0]) ∧ Adds wr b X1 (evs'.foldl addP (evs.foldl addP ps)) w') := hide (by rw [hn]; exact uh HT)
      have hnl : (n : Int) ≤ (r.length : Int) + 1 := by omega
      have hrr : rest.length ≤ r.length := h2
      clear h1 h2 hsuf hrs hfw hok her HT hn
      go_wp2_with fail
      refine (uh HT').mono ?_
      rintro e w2 ⟨rfl, a2⟩
      have HA2 : Hid (Adds w b X ((evs ++ evs').foldl addP ps) w2) := hide (by rw [List.foldl_append]; exact Adds.trans (uh HG) (uh HX1) a2)
      clear a2 HT'
      go_wp2
      go_roundw
      case rel => exact ⟨rest, evs ++ evs', by rw [uh HX], by omega, HNX, HA2⟩
      case measure => rw [uh HX]; simp [strOf]; omega
theorem read_zero : ReadN 0 := by
 intro k l w b X ps he hb3 hk hN hl h hr
 have hl0 : l = [] := List.eq_nil_of_length_eq_zero (by omega)
 subst hl0
 have HH := hide (Adds.refl h)
 have t2 : (BA []).toList.isEmpty = true := by rw [BA_toList]; rfl
 clear he h hr hb3 hk hN hl
 go_enter Tryz.func137, Tryz.ntmps137
 go_wp2_with fail
 go_loopw [1] (fun t wr => t = .string (BA []) ∧ wr = w) (fun _ _ => 0)
 case atStart => exact ⟨rfl, rfl⟩
 case round =>
  obtain ⟨rfl, rfl⟩ := hrel
  go_wp2
  go_ret
  unfold RdEnd
  rw [rdC_nil]
  exact ⟨rfl, uh HH⟩
theorem word_all : ∀ N : Nat, WordN N
 | 0 => word_step read_zero
 | N + 1 => word_step (read_step (word_all N))
theorem parsed_any (k : Nat) (l : List UInt8) (w : World) (he : WEnv w) (hk : k < 6) (hl : l.length ≤ 100000) : Calls Tryz.prog 98 #[.string (BA l), .int .i64 (k : Int)] w fun e w' => WEnd (wrdL true k l) w e w' := by
 by_cases h : l.length ≤ 4096
 ·have HW := hide (word_all l.length k l w he hk (ler _) h)
  rw [wrd_of h]
  have hi : ¬ (4096 : Int) < (l.length : Int) := by omega
  obtain ⟨R, hR⟩ : ∃ R, R = (rdC true k l).word := ⟨_, rfl⟩
  rw [← hR] at HW ⊢
  clear he hR
  cases R with
  | err x =>
    have HW' : Hid (Calls Tryz.prog 121 _ _ fun e w' => e = .returned (.tuple #[.slice none 0 0, .int .i64 x]) ∧ x ≠ 0 ∧ Below w.heap.size w w') := HW
    go_enter Tryz.func98, Tryz.ntmps98
    go_wp2_with fail
    refine (uh HW').mono ?_
    rintro e w1 ⟨rfl, hx, b1⟩
    have HX := hide hx
    have HB := hide b1
    clear hx b1
    go_wp2
    go_ret2
    exact ⟨rfl, uh HX, uh HB⟩
  | ok ps =>
    have HW' : Hid (Calls Tryz.prog 121 _ _ fun e w' => ∃ v, e = .returned (.tuple #[v, .int .i64 0]) ∧ Below w.heap.size w w' ∧ WAt w' (fun k => w.heap.size ≤ k ∧ k < w'.heap.size) v ps) := HW
    go_enter Tryz.func98, Tryz.ntmps98
    go_wp2_with fail
    refine (uh HW').mono ?_
    rintro e w1 ⟨v, rfl, b1, hv⟩
    have HB := hide b1
    have HV := hide hv
    clear hv b1
    go_wp2
    go_ret2
    exact ⟨v, rfl, uh HB, uh HV⟩
 ·have hi : (4096 : Int) < (l.length : Int) := by omega
  have hw : wrdL true k l = .err 3 := by unfold wrdL; rw [if_pos (by omega)]
  rw [hw]
  clear he hw
  go_enter Tryz.func98, Tryz.ntmps98
  go_wp2
  go_ret2
  exact ⟨rfl, by decide, Below.refl _ _⟩
theorem ret_w {r : Rd} {w : World} {e : Ending} {w' : World} (h : WEnd r w e w') : ∃ v, e = .returned (.tuple #[v, .int .i64 r.errno]) ∧ Below w.heap.size w w' ∧ WAt w' (fun k => w.heap.size ≤ k ∧ k < w'.heap.size) v r.parts := by
 cases r with
 | err x => exact ⟨_, h.1, h.2.2, wat_nil _ _ _ _⟩
 | ok ps => exact h
theorem parse_any (l : List UInt8) (w : World) (he : WEnv w) (hl : l.length ≤ 100000) : Calls Tryz.prog 80 #[.string (BA l)] w fun e w' => ∃ v, e = .returned (.tuple #[v, .int .i64 (wrdL true 0 l).errno]) ∧ Below w.heap.size w w' ∧ WAt w' (fun k => w.heap.size ≤ k ∧ k < w'.heap.size) v (wrdL true 0 l).parts := by
 have HP := hide ((parsed_any 0 l w he (by decide) hl).mono (fun e w' h => ret_w h))
 clear he
 obtain ⟨R, hR⟩ : ∃ R, R = wrdL true 0 l := ⟨_, rfl⟩
 rw [← hR] at HP ⊢
 clear hR
 go_enter Tryz.func80, Tryz.ntmps80
 go_wp2_with fail
 refine (uh HP).mono ?_
 rintro e w1 ⟨v, rfl, b1, hv⟩
 have HB := hide b1
 have HV := hide hv
 clear hv b1
 go_wp2
 go_ret2
 exact ⟨v, rfl, uh HB, uh HV⟩
theorem here_any (l : List UInt8) (w : World) (he : WEnv w) (hl : l.length ≤ 100000) : Calls Tryz.prog 148 #[.string (BA l)] w fun e w' => ∃ v, e = .returned (.tuple #[v, .int .i64 (wrdL true 5 l).errno]) ∧ Below w.heap.size w w' ∧ WAt w' (fun k => w.heap.size ≤ k ∧ k < w'.heap.size) v (wrdL true 5 l).parts := by
 have HP := hide ((parsed_any 5 l w he (by decide) hl).mono (fun e w' h => ret_w h))
 clear he
 obtain ⟨R, hR⟩ : ∃ R, R = wrdL true 5 l := ⟨_, rfl⟩
 rw [← hR] at HP ⊢
 clear hR
 go_enter Tryz.func148, Tryz.ntmps148
 go_wp2_with fail
 refine (uh HP).mono ?_
 rintro e w1 ⟨v, rfl, b1, hv⟩
 have HB := hide b1
 have HV := hide hv
 clear hv b1
 go_wp2
 go_ret2
 exact ⟨v, rfl, uh HB, uh HV⟩
end Go.Proofs.YtojjfdobilkknaaGreatDoor

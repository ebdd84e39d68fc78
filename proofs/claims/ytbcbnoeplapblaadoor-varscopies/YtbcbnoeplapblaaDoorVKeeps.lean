/-
  The law VarsKeeps walked.
-/
import Derived.Test.YtbcbnoeplapblaaDoorVKeepP
import Derived.Test.YtbcbnoeplapblaaDoorVPlain
import Derived.Deep.CutRange
namespace Go.Proofs.YtbcbnoeplapblaaDoor
open Go.RowKit Go.Maps

theorem sh_nil (w : World) : AIn w (.slice none 0 0) [] := ⟨none, 0, rfl, Nat.zero_le _, .inl rfl⟩
/-- Where a loop of calls stands. -/
structure KpAt (w : World) (b : Nat) (k : Nat) (wr : World) (s : VSt) : Prop where
  at_ : VAt wr b (fun j => w.heap.size ≤ j) s
  below : Below w.heap.size w wr
  few : s.L.length ≤ k
  args : s.args.length ≤ 20
theorem KpAt.step {w wr w1 : World} {b k : Nat} {s : VSt} (h : KpAt w b k wr s) (hb : Below wr.heap.size wr w1) : KpAt w b k w1 s := ⟨h.at_.below hb, h.below.trans (hb.mono h.below.size), h.few, h.args⟩
set_option maxRecDepth 20000 in
set_option maxHeartbeats 16000000 in
theorem keeps_walk (v : Value) (L : List OpP) (nm : List UInt8) (w : World) (h : OpsAt w v L) :
    Calls Tryd.prog 4 #[v, .string (BA nm)] w fun e w' => e = .returned (.bool true) ∧ Below w.heap.size w w' := by
  have HAW : Hid (∀ W, Below w.heap.size w W → Calls Tryd.prog 9 #[] W fun e w' => e = .returned (.bool true) ∧ Below w.heap.size w w') := hide (fun W hW => (awake_any W).mono (fun e w' ⟨h1, h2⟩ => ⟨h1, hW.trans (h2.mono hW.size)⟩))
  have HFW : Hid (Calls Tryd.prog 8 #[v] w fun e w' => e = .returned (.bool (fwB L)) ∧ w' = w) := hide (few_any v L w h)
  have HH := hide h
  obtain ⟨ad, cap, rfl, hm, _⟩ := h
  obtain ⟨n, hn⟩ : ∃ n, n = L.length := ⟨_, rfl⟩
  have HN := hide hn
  rw [← hn] at hm HFW HH ⊢
  rw [max63] at hm
  clear hn
  cases hfb : fwB L with
  | false =>
    rw [hfb] at HFW
    clear hfb HH HN
    go_enter Tryd.func4, Tryd.ntmps4
    go_wp2_with fail
    refine (unhide HFW).mono ?_
    rintro e w1 ⟨rfl, hw1⟩
    rw [show w1 = w from hw1]
    clear hw1
    go_wp2_with fail
    refine (unhide HAW _ (Below.refl _ _)).mono ?_
    rintro e w2 ⟨rfl, b2⟩
    have HB2 := hide b2
    clear b2
    go_wp2
    go_ret
    exact ⟨rfl, unhide HB2⟩
  | true =>
    rw [hfb] at HFW
    have HFB := hide hfb
    clear hfb
    by_cases hq : 200 < nm.length
    · have hq1 : (200 : Int) < (nm.length : Int) := by omega
      clear hq HH HN HFB
      go_enter Tryd.func4, Tryd.ntmps4
      go_wp2_with fail
      refine (unhide HFW).mono ?_
      rintro e w1 ⟨rfl, hw1⟩
      rw [show w1 = w from hw1]
      clear hw1
      go_wp2_with fail
      refine (unhide HAW _ (Below.refl _ _)).mono ?_
      rintro e w2 ⟨rfl, b2⟩
      have HB2 := hide b2
      clear b2
      go_wp2
      go_ret
      exact ⟨rfl, unhide HB2⟩
    · have hq1 : ¬ (200 : Int) < (nm.length : Int) := by omega
      have hnl : nm.length ≤ 200 := by omega
      clear hq
      have HNEW := hide (new_any [115, 104] _ [] w (sh_nil w) (by decide))
      go_enter Tryd.func4, Tryd.ntmps4
      go_wp2_with fail
      refine (unhide HFW).mono ?_
      rintro e w1 ⟨rfl, hw1⟩
      rw [show w1 = w from hw1]
      clear hw1
      go_wp2_with fail
      refine (unhide HNEW).mono ?_
      obtain ⟨b, hb⟩ : ∃ b, b = w.heap.size := ⟨_, rfl⟩
      rw [← hb]
      rintro e w2 ⟨rfl, v2, b2⟩
      rw [hb] at b2
      have HI0 : Hid (KpAt w b 0 w2 ⟨[115, 104], [], [], 0⟩) := hide ⟨by rw [hb] at v2 ⊢; exact v2, b2, Nat.zero_le _, Nat.zero_le _⟩
      clear v2 b2 hb HNEW HFW
      go_wp2_with fail
      go_loopw [6, 7, 8] (fun vv sv i wr => ∃ (k : Nat) (s : VSt) (xv : List UInt8) (xs : Bool), vv = .string (BA xv) ∧ sv = .bool xs ∧ i = .int .i64 k ∧ k ≤ n ∧ Hid (KpAt w b k wr s ∧ xv = (getL s.L nm).value ∧ xs = (getL s.L nm).set)) (fun _ _ i _ => n - (intOf i).toNat)
      case atStart => exact ⟨0, ⟨[115, 104], [], [], 0⟩, [], false, rfl, rfl, rfl, Nat.zero_le _, hide ⟨unhide HI0, rfl, rfl⟩⟩
      case round =>
        obtain ⟨k, s, xv, xs, rfl, rfl, rfl, hk, HI⟩ := hrel
        clear HI0
        by_cases hlt : k < n
        · obtain ⟨o, ho⟩ := get_ex (l := L) (k := k) (by have := unhide HN; omega)
          obtain ⟨g, q, u, had, hg, a0, a1, a2, a3, a4, a5⟩ := ((unhide HH).below (unhide HI).1.below).op ho
          subst had
          obtain ⟨ho1, ho2, ho3⟩ := opB_of (unhide HFB) ho
          have hn60 : n ≤ 60 := by have := len_of (unhide HFB); have := unhide HN; omega
          have HA5 := hide a5
          obtain ⟨au, ac, hu, _⟩ := id a5
          obtain ⟨al, hal⟩ : ∃ al, al = o.args.length := ⟨_, rfl⟩
          rw [← hal] at hu
          subst hu
          have hlt1 : (k : Int) < (n : Int) := by omega
          have hk0 : (0 : Int) ≤ (k : Int) := by omega
          have HO3 := hide ho3
          have HO1 := hide ho1
          clear a5 hal ho3 ho1 ho2 hg ho
          go_upto_region 10 with fail
          obtain ⟨W1, hW1⟩ : ∃ W, W = wr.alloc (.cells #[.int .i64 o.kind, .string (BA o.name), .string (BA o.value), .int .i64 o.n, .slice au al ac] 35) := ⟨_, rfl⟩
          rw [← hW1]
          have hB1 : Below wr.heap.size wr W1 := by rw [hW1]; exact (Below.refl _ wr).alloc (Nat.le_refl _) _
          have hblk : Blk W1 wr.heap.size 35 #[.int .i64 o.kind, .string (BA o.name), .string (BA o.value), .int .i64 o.n, .slice au al ac] := by rw [hW1]; exact Blk.new _ _ _
          have hz1 : W1.heap.size = wr.heap.size + 1 := by rw [hW1]; simp
          obtain ⟨nb, hnb⟩ : ∃ nb, nb = wr.heap.size := ⟨_, rfl⟩
          rw [← hnb] at hblk
          rw [← hnb]
          have HB1 := hide hB1
          have HBK := hide hblk
          have HNB := hide hnb
          have HZ1 := hide hz1
          have HALL := hide (all_any b _ s W1 ((unhide HI).1.at_.below hB1) (by have := (unhide HI).1.few; omega))
          clear hW1 hB1 hblk hz1 hnb a0 a1 a2 a3 a4
          go_wp2_with fail
          refine (unhide HALL).mono ?_
          rintro e w2 ⟨v2, rfl, ho2, b2⟩
          have HPL := hide (plain_any v2 s.L w2 (VRow.of ho2 rfl) (by have := (unhide HI).1.few; omega))
          have HB2 := hide ((unhide HB1).trans (b2.mono (unhide HB1).size))
          have HBK2 := hide ((unhide HBK).below b2 (unhide HBK).lt)
          have HZ2 := hide b2.size
          clear ho2 b2 HALL
          go_wp2_with fail
          refine (unhide HPL).mono ?_
          rintro e w3 ⟨vw, rfl, b3, hvw⟩
          have HB3 := hide ((unhide HB2).trans (b3.mono (unhide HB2).size))
          have HBK3 := hide ((unhide HBK2).below b3 (unhide HBK2).lt)
          have HVW := hide hvw
          have HZ3 := hide b3.size
          have HAR := hide (args_any b _ s w3 ((unhide HI).1.at_.below (unhide HB3)) (by have := (unhide HI).1.args; omega))
          clear b3 hvw HPL HBK2
          go_wp2_with fail
          refine (unhide HAR).mono ?_
          rintro e w4 ⟨va, rfl, hva, hvb, b4⟩
          have HB4 := hide ((unhide HB3).trans (b4.mono (unhide HB3).size))
          have HBK4 := hide ((unhide HBK3).below b4 (unhide HBK3).lt)
          have HVW4 := hide (own_grownS (unhide HVW) (grownS_of_below (S := fun _ => False) b4) (fun _ _ e => e))
          have HVA := hide (And.intro hva hvb)
          have HZ4 := hide b4.size
          clear b4 hva hvb HAR HVW HBK3
          obtain ⟨X, hX⟩ : ∃ X : Nat → Prop, X = fun j => (w.heap.size ≤ j ∧ j < wr.heap.size) ∨ w4.heap.size ≤ j := ⟨_, rfl⟩
          have hXn : ∀ j, wr.heap.size ≤ j → j < w4.heap.size → ¬ X j := fun j h1 h2 h3 => by rw [hX] at h3; rcases h3 with h3 | h3 <;> omega
          have hV4 : VAt w4 b X s := ((unhide HI).1.at_.tight.below (unhide HB4)).mono (fun j hj => by rw [hX]; exact .inl hj)
          have HDO : Hid (Calls Tryd.prog 11 #[.pointer (some ⟨b, 0, none⟩), .agg #[.int .i64 o.kind, .string (BA o.name), .string (BA o.value), .int .i64 o.n, .slice au al ac]] w4 fun e w' => DoEnd (stepS s o) b X w4 e w') := hide (do_any b X s o (.slice au al ac) w4 (fun j hj => by rw [hX]; exact .inr hj) hV4 ((unhide HA5).below (unhide HB4)) (by have := unhide HO3; omega) (by have := unhide HO1; omega) (by have := (unhide HI).1.few; omega) (by have := (unhide HI).1.args; omega))
          have HXX : Hid (∀ j, X j → w.heap.size ≤ j) := hide (fun j hj => by
            rw [hX] at hj
            have := (unhide HI).1.below.size
            have := (unhide HB4).size
            rcases hj with hj | hj <;> omega)
          have HXN := hide hXn
          clear hX hXn hV4
          have q0 : w4.cell? ⟨nb, 0, none⟩ = some (.int .i64 o.kind) := (unhide HBK4).cell 0 rfl
          have q1 : w4.cell? ⟨nb, 1, none⟩ = some (.string (BA o.name)) := (unhide HBK4).cell 1 rfl
          have q2 : w4.cell? ⟨nb, 2, none⟩ = some (.string (BA o.value)) := (unhide HBK4).cell 2 rfl
          have q3 : w4.cell? ⟨nb, 3, none⟩ = some (.int .i64 o.n) := (unhide HBK4).cell 3 rfl
          have q4 : w4.cell? ⟨nb, 4, none⟩ = some (.slice au al ac) := (unhide HBK4).cell 4 rfl
          go_wp2_with fail
          refine (unhide HDO).mono ?_
          rintro e w5 ⟨rfl, hv5, hg5⟩
          have HI5 : Hid (KpAt w b (k + 1) w5 (stepS s o).1) := hide ⟨hv5.mono (unhide HXX), (unhide HI).1.below.trans ((((unhide HB4).mono (unhide HI).1.below.size)).trans (hg5.below (by have := (unhide HI).1.below.size; have := (unhide HB4).size; omega) (unhide HXX))), by have := step_len s o; have := (unhide HI).1.few; omega, step_args s o 20 (unhide HI).1.args (unhide HO3)⟩
          have hbk5 : Blk w5 nb 35 #[.int .i64 o.kind, .string (BA o.name), .string (BA o.value), .int .i64 o.n, .slice au al ac] := (unhide HBK4).grownS hg5 (unhide HXN nb (by rw [unhide HNB]; exact Nat.le_refl _) (unhide HBK4).lt)
          have HVW5 := hide (own_grownS (unhide HVW4) hg5 (fun j hj => unhide HXN j (by have := (World.ownsRow.lt (unhide HVW4) j hj).1; have := unhide HZ2; have := unhide HZ1; omega) (World.ownsRow.lt (unhide HVW4) j hj).2))
          have HVA5 := hide ((unhide HVA).1.grown hg5 (fun j hj => unhide HXN j (by have := (unhide HVA).2 j hj; have := unhide HZ3; have := unhide HZ2; have := unhide HZ1; omega) ((unhide HVA).1.lt hj)))
          have HBK5 := hide hbk5
          clear hv5 hg5 hbk5 HVW4 HVA HDO HXX HXN HBK4 q0 q1 q2 q3 q4
          have HGT : Hid (∀ W, KpAt w b (k + 1) W (stepS s o).1 → Calls Tryd.prog 21 #[.pointer (some ⟨b, 0, none⟩), .string (BA nm)] W fun e w' => e = .returned (.tuple #[.string (BA (getL (stepS s o).1.L nm).value), .bool (getL (stepS s o).1.L nm).set]) ∧ KpAt w b (k + 1) w' (stepS s o).1) := hide (fun W hK => (get_any b _ _ nm W hK.at_ (by omega)).mono (fun e w' ⟨h1, h2⟩ => ⟨h1, hK.step h2⟩))
          have HKD : Hid (∀ W, Calls Tryd.prog 20 #[.agg #[.int .i64 o.kind, .string (BA o.name), .string (BA o.value), .int .i64 o.n, .slice au al ac]] W fun e w' => e = .returned (.int .i64 (kndI o.kind)) ∧ Below W.heap.size W w') := hide (fun W => kind_any _ _ _ _ _ W)
          have q0 : w5.cell? ⟨nb, 0, none⟩ = some (.int .i64 o.kind) := (unhide HBK5).cell 0 rfl
          have q1 : w5.cell? ⟨nb, 1, none⟩ = some (.string (BA o.name)) := (unhide HBK5).cell 1 rfl
          have q2 : w5.cell? ⟨nb, 2, none⟩ = some (.string (BA o.value)) := (unhide HBK5).cell 2 rfl
          have q3 : w5.cell? ⟨nb, 3, none⟩ = some (.int .i64 o.n) := (unhide HBK5).cell 3 rfl
          have q4 : w5.cell? ⟨nb, 4, none⟩ = some (.slice au al ac) := (unhide HBK5).cell 4 rfl
          by_cases hr0 : (stepS s o).2 = 0
          · rw [hr0]
            obtain ⟨kd, hkd⟩ : ∃ kd, kd = kndI o.kind := ⟨_, rfl⟩
            rw [← hkd] at HKD
            have HKE := hide hkd
            by_cases hnn : o.name = nm
            · have hnn1 : ((BA o.name).toList == (BA nm).toList) = true := by rw [hnn]; simp
              by_cases hk2 : kd < 2
              · obtain ⟨h1, h2⟩ := step_set (s := s) hr0 (by rw [← hkd]; exact hk2)
                rw [hnn] at h1 h2
                obtain ⟨s', hs'⟩ : ∃ s', s' = (stepS s o).1 := ⟨_, rfl⟩
                rw [← hs'] at HI5 HGT h1 h2
                rw [h1, h2] at HGT
                have HGV : Hid (o.value = (getL s'.L nm).value) := hide h1.symm
                have HGS : Hid (true = (getL s'.L nm).set) := hide h2.symm
                have hk3 : (kd == 2) = false := by simp; omega
                clear hs' h1 h2 hr0 hnn hkd
                go_wp2_with fail
                refine (unhide HKD _).mono ?_
                rintro e w6 ⟨rfl, b6⟩
                have BK6 := hide ((unhide HBK5).below b6 (unhide HBK5).lt)
                have KI6 := hide ((unhide HI5).step b6)
                clear b6 q0 q1 q2 q3 q4
                have q0 : w6.cell? ⟨nb, 0, none⟩ = some (.int .i64 o.kind) := (unhide BK6).cell 0 rfl
                have q1 : w6.cell? ⟨nb, 1, none⟩ = some (.string (BA o.name)) := (unhide BK6).cell 1 rfl
                have q2 : w6.cell? ⟨nb, 2, none⟩ = some (.string (BA o.value)) := (unhide BK6).cell 2 rfl
                have q3 : w6.cell? ⟨nb, 3, none⟩ = some (.int .i64 o.n) := (unhide BK6).cell 3 rfl
                have q4 : w6.cell? ⟨nb, 4, none⟩ = some (.slice au al ac) := (unhide BK6).cell 4 rfl
                go_wp2_with fail
                refine (unhide HKD _).mono ?_
                rintro e w7 ⟨rfl, b7⟩
                have BK7 := hide ((unhide BK6).below b7 (unhide BK6).lt)
                have KI7 := hide ((unhide KI6).step b7)
                clear b7 q0 q1 q2 q3 q4
                have q0 : w7.cell? ⟨nb, 0, none⟩ = some (.int .i64 o.kind) := (unhide BK7).cell 0 rfl
                have q1 : w7.cell? ⟨nb, 1, none⟩ = some (.string (BA o.name)) := (unhide BK7).cell 1 rfl
                have q2 : w7.cell? ⟨nb, 2, none⟩ = some (.string (BA o.value)) := (unhide BK7).cell 2 rfl
                have q3 : w7.cell? ⟨nb, 3, none⟩ = some (.int .i64 o.n) := (unhide BK7).cell 3 rfl
                have q4 : w7.cell? ⟨nb, 4, none⟩ = some (.slice au al ac) := (unhide BK7).cell 4 rfl
                go_wp2_with fail
                refine (unhide HGT _ (unhide KI7)).mono ?_
                rintro e w9 ⟨rfl, hI9⟩
                have HI9 := hide hI9
                clear hI9
                go_wp2
                go_roundw
                case rel => exact ⟨k + 1, s', _, _, rfl, rfl, by go_num, by omega, hide ⟨unhide HI9, unhide HGV, unhide HGS⟩⟩
                case measure => simp [intOf]; omega
              by_cases hk3 : kd = 2
              · have h1 := step_uns (s := s) hr0 (by rw [← hkd]; exact hk3)
                rw [hnn] at h1
                obtain ⟨s', hs'⟩ : ∃ s', s' = (stepS s o).1 := ⟨_, rfl⟩
                rw [← hs'] at HI5 HGT h1
                rw [h1] at HGT
                have HGT : Hid (∀ W, KpAt w b (k + 1) W s' → Calls Tryd.prog 21 #[.pointer (some ⟨b, 0, none⟩), .string (BA nm)] W fun e w' => e = .returned (.tuple #[.string ⟨#[]⟩, .bool false]) ∧ KpAt w b (k + 1) w' s') := HGT
                have HGV : Hid ([] = (getL s'.L nm).value) := hide (by rw [h1]; rfl)
                have HGS : Hid (false = (getL s'.L nm).set) := hide (by rw [h1]; rfl)
                clear hs' h1 hr0 hnn hkd
                subst hk3
                go_wp2_with fail
                refine (unhide HKD _).mono ?_
                rintro e w6 ⟨rfl, b6⟩
                have BK6 := hide ((unhide HBK5).below b6 (unhide HBK5).lt)
                have KI6 := hide ((unhide HI5).step b6)
                clear b6 q0 q1 q2 q3 q4
                have q0 : w6.cell? ⟨nb, 0, none⟩ = some (.int .i64 o.kind) := (unhide BK6).cell 0 rfl
                have q1 : w6.cell? ⟨nb, 1, none⟩ = some (.string (BA o.name)) := (unhide BK6).cell 1 rfl
                have q2 : w6.cell? ⟨nb, 2, none⟩ = some (.string (BA o.value)) := (unhide BK6).cell 2 rfl
                have q3 : w6.cell? ⟨nb, 3, none⟩ = some (.int .i64 o.n) := (unhide BK6).cell 3 rfl
                have q4 : w6.cell? ⟨nb, 4, none⟩ = some (.slice au al ac) := (unhide BK6).cell 4 rfl
                go_wp2_with fail
                refine (unhide HKD _).mono ?_
                rintro e w7 ⟨rfl, b7⟩
                have BK7 := hide ((unhide BK6).below b7 (unhide BK6).lt)
                have KI7 := hide ((unhide KI6).step b7)
                clear b7 q0 q1 q2 q3 q4
                have q0 : w7.cell? ⟨nb, 0, none⟩ = some (.int .i64 o.kind) := (unhide BK7).cell 0 rfl
                have q1 : w7.cell? ⟨nb, 1, none⟩ = some (.string (BA o.name)) := (unhide BK7).cell 1 rfl
                have q2 : w7.cell? ⟨nb, 2, none⟩ = some (.string (BA o.value)) := (unhide BK7).cell 2 rfl
                have q3 : w7.cell? ⟨nb, 3, none⟩ = some (.int .i64 o.n) := (unhide BK7).cell 3 rfl
                have q4 : w7.cell? ⟨nb, 4, none⟩ = some (.slice au al ac) := (unhide BK7).cell 4 rfl
                go_wp2_with fail
                refine (unhide HGT _ (unhide KI7)).mono ?_
                rintro e w9 ⟨rfl, hI9⟩
                have HI9 := hide hI9
                clear hI9
                go_wp2
                go_roundw
                case rel => exact ⟨k + 1, s', _, _, rfl, rfl, by go_num, by omega, hide ⟨unhide HI9, unhide HGV, unhide HGS⟩⟩
                case measure => simp [intOf]; omega
              · have hvl := step_other (s := s) (o := o) (n := nm) (.inr (by rw [← hkd]; omega))
                rw [← (unhide HI).2.1.trans hvl.value.symm, ← (unhide HI).2.2.trans hvl.set.symm] at HGT
                have HGV : Hid (xv = (getL (stepS s o).1.L nm).value) := hide ((unhide HI).2.1.trans hvl.value.symm)
                have HGS : Hid (xs = (getL (stepS s o).1.L nm).set) := hide ((unhide HI).2.2.trans hvl.set.symm)
                obtain ⟨s', hs'⟩ : ∃ s', s' = (stepS s o).1 := ⟨_, rfl⟩
                rw [← hs'] at HI5 HGT HGV HGS
                have hk4 : (kd == 2) = false := by simpa using hk3
                clear hs' hvl hr0 hnn hkd
                go_wp2_with fail
                refine (unhide HKD _).mono ?_
                rintro e w6 ⟨rfl, b6⟩
                have BK6 := hide ((unhide HBK5).below b6 (unhide HBK5).lt)
                have KI6 := hide ((unhide HI5).step b6)
                clear b6 q0 q1 q2 q3 q4
                have q0 : w6.cell? ⟨nb, 0, none⟩ = some (.int .i64 o.kind) := (unhide BK6).cell 0 rfl
                have q1 : w6.cell? ⟨nb, 1, none⟩ = some (.string (BA o.name)) := (unhide BK6).cell 1 rfl
                have q2 : w6.cell? ⟨nb, 2, none⟩ = some (.string (BA o.value)) := (unhide BK6).cell 2 rfl
                have q3 : w6.cell? ⟨nb, 3, none⟩ = some (.int .i64 o.n) := (unhide BK6).cell 3 rfl
                have q4 : w6.cell? ⟨nb, 4, none⟩ = some (.slice au al ac) := (unhide BK6).cell 4 rfl
                go_wp2_with fail
                refine (unhide HKD _).mono ?_
                rintro e w7 ⟨rfl, b7⟩
                have BK7 := hide ((unhide BK6).below b7 (unhide BK6).lt)
                have KI7 := hide ((unhide KI6).step b7)
                clear b7 q0 q1 q2 q3 q4
                have q0 : w7.cell? ⟨nb, 0, none⟩ = some (.int .i64 o.kind) := (unhide BK7).cell 0 rfl
                have q1 : w7.cell? ⟨nb, 1, none⟩ = some (.string (BA o.name)) := (unhide BK7).cell 1 rfl
                have q2 : w7.cell? ⟨nb, 2, none⟩ = some (.string (BA o.value)) := (unhide BK7).cell 2 rfl
                have q3 : w7.cell? ⟨nb, 3, none⟩ = some (.int .i64 o.n) := (unhide BK7).cell 3 rfl
                have q4 : w7.cell? ⟨nb, 4, none⟩ = some (.slice au al ac) := (unhide BK7).cell 4 rfl
                go_wp2_with fail
                refine (unhide HGT _ (unhide KI7)).mono ?_
                rintro e w9 ⟨rfl, hI9⟩
                have HI9 := hide hI9
                clear hI9
                go_wp2
                go_roundw
                case rel => exact ⟨k + 1, s', _, _, rfl, rfl, by go_num, by omega, hide ⟨unhide HI9, unhide HGV, unhide HGS⟩⟩
                case measure => simp [intOf]; omega
            · have hnn1 : ((BA o.name).toList == (BA nm).toList) = false := by rw [BA_toList, BA_toList]; simpa using hnn
              have hvl := step_other (s := s) (o := o) (n := nm) (.inl hnn)
              rw [← (unhide HI).2.1.trans hvl.value.symm, ← (unhide HI).2.2.trans hvl.set.symm] at HGT
              have HGV : Hid (xv = (getL (stepS s o).1.L nm).value) := hide ((unhide HI).2.1.trans hvl.value.symm)
              have HGS : Hid (xs = (getL (stepS s o).1.L nm).set) := hide ((unhide HI).2.2.trans hvl.set.symm)
              obtain ⟨s', hs'⟩ : ∃ s', s' = (stepS s o).1 := ⟨_, rfl⟩
              rw [← hs'] at HI5 HGT HGV HGS
              clear hs' hvl hr0 hnn hkd
              go_wp2_with fail
              refine (unhide HGT _ (unhide HI5)).mono ?_
              rintro e w9 ⟨rfl, hI9⟩
              have HI9 := hide hI9
              clear hI9
              go_wp2
              go_roundw
              case rel => exact ⟨k + 1, s', _, _, rfl, rfl, by go_num, by omega, hide ⟨unhide HI9, unhide HGV, unhide HGS⟩⟩
              case measure => simp [intOf]; omega
          · obtain ⟨hsl, hsa⟩ := step_err hr0
            obtain ⟨r, hr⟩ : ∃ r, r = (stepS s o).2 := ⟨_, rfl⟩
            rw [← hr] at hr0 ⊢
            have hrn : (r != 0) = true := by simpa using hr0
            have hre : (r == 0) = false := by simpa using hr0
            have HGV : Hid (xv = (getL (stepS s o).1.L nm).value) := hide (by rw [hsl]; exact (unhide HI).2.1)
            have HGS : Hid (xs = (getL (stepS s o).1.L nm).set) := hide (by rw [hsl]; exact (unhide HI).2.2)
            rw [← unhide HGV, ← unhide HGS] at HGT
            obtain ⟨s', hs'⟩ : ∃ s', s' = (stepS s o).1 := ⟨_, rfl⟩
            rw [← hs'] at HI5 HGT HGV HGS hsl hsa
            have HAL5 := hide (all_any b _ s' w5 (unhide HI5).at_ (by have := (unhide HI5).few; omega))
            have HSL := hide hsl
            have HSA := hide hsa
            clear hs' hr hr0 hsl hsa HKD
            go_wp2_with fail
            refine (unhide HAL5).mono ?_
            rintro e w6 ⟨v6, rfl, ho6, b6⟩
            have HP6 := hide (plain_any v6 s'.L w6 (VRow.of ho6 rfl) (by have := (unhide HI5).few; omega))
            have HI6 := hide ((unhide HI5).step b6)
            have HVW6 := hide (own_grownS (unhide HVW5) (grownS_of_below (S := fun _ => False) b6) (fun _ _ e => e))
            have HVA6 := hide ((unhide HVA5).grown (grownS_of_below (S := fun _ => False) b6) (fun _ _ e => e))
            clear ho6 b6 HAL5 HVW5 HVA5 q0 q1 q2 q3 q4
            go_wp2_with fail
            refine (unhide HP6).mono ?_
            rintro e w7 ⟨v7, rfl, b7, ho7⟩
            have HI7 := hide ((unhide HI6).step b7)
            have HSM : Hid (Calls Tryd.prog 18 #[vw, v7] w7 fun e w' => e = .returned (.bool true) ∧ Below w7.heap.size w7 w') := hide (by
              have h1 := VRow.of (own_grownS (unhide HVW6) (grownS_of_below (S := fun _ => False) b7) (fun _ _ e => e)) rfl
              have h2 := VRow.of ho7 rfl
              rw [unhide HSL] at h2
              exact same_any vw v7 s.L w7 h1 h2 (by have := (unhide HI).1.few; omega))
            have HVA7 := hide ((unhide HVA6).grown (grownS_of_below (S := fun _ => False) b7) (fun _ _ e => e))
            clear ho7 b7 HP6 HVW6 HVA6
            go_wp2_with fail
            refine (unhide HSM).mono ?_
            rintro e w8 ⟨rfl, b8⟩
            have HI8 := hide ((unhide HI7).step b8)
            have HVA8 := hide ((unhide HVA7).grown (grownS_of_below (S := fun _ => False) b8) (fun _ _ e => e))
            have HAR := hide (args_any b _ s' w8 (unhide HI8).at_ (by have := (unhide HI8).args; omega))
            clear b8 HSM HVA7
            go_wp2_with fail
            refine (unhide HAR).mono ?_
            rintro e wa ⟨va2, rfl, hva, _, ba⟩
            have HIa := hide ((unhide HI8).step ba)
            have HTX : Hid (Calls Tryd.prog 19 #[va, va2] wa fun e w' => e = .returned (.bool true) ∧ Below wa.heap.size wa w') := hide (by
              rw [unhide HSA] at hva
              exact textsEq_any va va2 s.args wa ((unhide HVA8).grown (grownS_of_below (S := fun _ => False) ba) (fun _ _ e => e)).read hva.read (by have := (unhide HI).1.args; omega))
            clear ba hva HAR HVA8
            go_wp2_with fail
            refine (unhide HTX).mono ?_
            rintro e wb ⟨rfl, bb⟩
            have HIb := hide ((unhide HIa).step bb)
            clear bb HTX
            go_wp2_with fail
            refine (unhide HGT _ (unhide HIb)).mono ?_
            rintro e w9 ⟨rfl, hI9⟩
            have HI9 := hide hI9
            clear hI9
            go_wp2
            go_roundw
            case rel => exact ⟨k + 1, s', _, _, rfl, rfl, by go_num, by omega, hide ⟨unhide HI9, unhide HGV, unhide HGS⟩⟩
            case measure => simp [intOf]; omega
        · have hlt1 : ¬ (k : Int) < (n : Int) := by omega
          go_wp2_with fail
          refine (unhide HAW _ (unhide HI).1.below).mono ?_
          rintro e w6 ⟨rfl, b6⟩
          have HB6 := hide b6
          clear b6
          go_wp2
          go_ret
          exact ⟨rfl, unhide HB6⟩

end Go.Proofs.YtbcbnoeplapblaaDoor

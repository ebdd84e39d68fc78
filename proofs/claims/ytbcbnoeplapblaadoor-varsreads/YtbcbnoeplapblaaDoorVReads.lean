/-
  The law VarsReads walked.
-/
import Derived.Test.YtbcbnoeplapblaaDoorVLaw
import Derived.Deep.CutRange
namespace Go.Proofs.YtbcbnoeplapblaaDoor
open Go.RowKit Go.Maps

theorem sh_nil (w : World) : AIn w (.slice none 0 0) [] := ⟨none, 0, rfl, Nat.zero_le _, .inl rfl⟩
/-- Where the loop stands. -/
structure RdAt (W : World) (b : Nat) (X : Nat → Prop) (nm : List UInt8) (x0 : Vr) (k : Nat) (wr : World) (s : VSt) : Prop where
  at_ : VAt wr b X s
  below : Below W.heap.size W wr
  stays : Stays x0 (getL s.L nm)
  few : s.L.length ≤ k + 2
  args : s.args.length ≤ 20
/-- What there is ahead of the loop. -/
def rd0 (nm vl : List UInt8) (sets : Bool) : VSt := if sets then (setS ⟨[115, 104], [], [], 0⟩ nm vl).1 else ⟨[115, 104], [], [], 0⟩
theorem rd0_len (nm vl : List UInt8) (sets : Bool) : (rd0 nm vl sets).L.length ≤ 1 ∧ (rd0 nm vl sets).args = [] := by
  unfold rd0
  split
  · unfold setS
    split
    · exact ⟨Nat.zero_le _, rfl⟩
    split
    · exact ⟨Nat.zero_le _, rfl⟩
    · exact ⟨putL_len _ _, rfl⟩
  · exact ⟨Nat.zero_le _, rfl⟩
theorem rd0_no {nm vl : List UInt8} {sets : Bool} (h : namL nm = false) : (getL (rd0 nm vl sets).L nm).set = false := by
  unfold rd0
  split
  · unfold setS
    rw [if_pos h]
    rfl
  · rfl
theorem rdo_get {s : VSt} {nm : List UInt8} (h : namL nm = true) : Stays (getL s.L nm) (getL (rdoS s nm).1.L nm) ∧ (rdoS s nm).2 = 0 ∧ (rdoS s nm).1.L.length ≤ s.L.length + 1 ∧ (rdoS s nm).1.args = s.args := by
  unfold rdoS
  rw [if_neg (by simp [h])]
  refine ⟨?_, rfl, putL_len _ _, rfl⟩
  simp only
  rw [get_put, if_pos rfl]
  exact ⟨rfl, rfl, rfl⟩
set_option maxRecDepth 20000 in
set_option maxHeartbeats 8000000 in
theorem reads_walk (v : Value) (L : List OpP) (nm vl : List UInt8) (sets : Bool) (w : World) (h : OpsAt w v L) :
    Calls Tryd.prog 5 #[v, .agg #[.string (BA nm), .string (BA vl), .bool sets]] w fun e w' => e = .returned (.bool true) ∧ Below w.heap.size w w' := by
  have HAW : Hid (∀ W, Below w.heap.size w W → Calls Tryd.prog 9 #[] W fun e w' => e = .returned (.bool true) ∧ Below w.heap.size w w') := hide (fun W hW => (awake_any W).mono (fun e w' ⟨h1, h2⟩ => ⟨h1, hW.trans (h2.mono hW.size)⟩))
  have HFW : Hid (∀ W, Below w.heap.size w W → Calls Tryd.prog 8 #[v] W fun e w' => e = .returned (.bool (fwB L)) ∧ w' = W) := hide (fun W hW => few_any v L W (h.below hW))
  have HH := hide h
  obtain ⟨ad, cap, rfl, hm, _⟩ := h
  obtain ⟨n, hn⟩ : ∃ n, n = L.length := ⟨_, rfl⟩
  have HN := hide hn
  rw [← hn] at hm HFW HH ⊢
  rw [max63] at hm
  clear hn
  obtain ⟨W, hW⟩ : ∃ W, W = w.alloc (.cells #[.string (BA nm), .string (BA vl), .bool sets] 48) := ⟨_, rfl⟩
  have HBW : Hid (Below w.heap.size w W) := hide (by rw [hW]; exact (Below.refl _ w).alloc (Nat.le_refl _) _)
  have hblk : Blk W w.heap.size 48 #[.string (BA nm), .string (BA vl), .bool sets] := by rw [hW]; exact Blk.new _ _ _
  obtain ⟨nb, hnb⟩ : ∃ nb, nb = w.heap.size := ⟨_, rfl⟩
  have e0 : W.cell? ⟨nb, 0, none⟩ = some (.string (BA nm)) := by rw [hnb]; exact hblk.cell 0 rfl
  have e1 : W.cell? ⟨nb, 1, none⟩ = some (.string (BA vl)) := by rw [hnb]; exact hblk.cell 1 rfl
  have e2 : W.cell? ⟨nb, 2, none⟩ = some (.bool sets) := by rw [hnb]; exact hblk.cell 2 rfl
  rw [← hnb] at hblk
  have HBK := hide hblk
  clear hblk
  cases hfb : fwB L with
  | false =>
    rw [hfb] at HFW
    clear hfb HH HN
    go_enter Tryd.func5, Tryd.ntmps5
    go_upto_region 1 with fail
    rw [← hW, ← hnb]
    clear hW hnb
    go_wp2_with fail
    refine (unhide HFW _ (unhide HBW)).mono ?_
    rintro e w1 ⟨rfl, rfl⟩
    go_wp2_with fail
    refine (unhide HAW _ (unhide HBW)).mono ?_
    rintro e w2 ⟨rfl, b2⟩
    have HB2 := hide b2
    clear b2
    go_wp2
    go_ret
    exact ⟨rfl, unhide HB2⟩
  | true =>
    rw [hfb] at HFW
    have HFB := hide hfb
    clear hfb
    by_cases hq : 200 < nm.length ∨ 200 < vl.length
    · have hq1 : (200 : Int) < (nm.length : Int) ∨ (¬ (200 : Int) < (nm.length : Int) ∧ (200 : Int) < (vl.length : Int)) := by omega
      clear hq HH HN HFB
      rcases hq1 with hq1 | ⟨hq1, hq2⟩
      all_goals
        go_enter Tryd.func5, Tryd.ntmps5
        go_upto_region 1 with fail
        rw [← hW, ← hnb]
        clear hW hnb
        go_wp2_with fail
        refine (unhide HFW _ (unhide HBW)).mono ?_
        rintro e w1 ⟨rfl, rfl⟩
        go_wp2_with fail
        refine (unhide HAW _ (unhide HBW)).mono ?_
        rintro e w2 ⟨rfl, b2⟩
        have HB2 := hide b2
        clear b2
        go_wp2
        go_ret
        exact ⟨rfl, unhide HB2⟩
    · have hq1 : ¬ (200 : Int) < (nm.length : Int) := by omega
      have hq2 : ¬ (200 : Int) < (vl.length : Int) := by omega
      have hnl : nm.length ≤ 200 := by omega
      clear hq
      obtain ⟨X, hX⟩ : ∃ X : Nat → Prop, X = fun k => W.heap.size ≤ k := ⟨_, rfl⟩
      have hnX : ¬ X nb := by
        rw [hX]
        have := (unhide HBK).lt
        omega
      have HCL : Hid (∀ W1, Below W.heap.size W W1 → ∀ k, W1.heap.size ≤ k → X k) := hide (fun W1 h1 k hk => by rw [hX]; exact Nat.le_trans h1.size hk)
      have HGB : Hid (∀ W1 W2, Below W.heap.size W W1 → GrownS W1 W2 X → Below W.heap.size W W2) := hide (fun W1 W2 h1 h2 => h1.trans (h2.below h1.size (fun k hk => by rw [hX] at hk; exact hk)))
      have HWW : Hid (∀ W1, Below W.heap.size W W1 → Below w.heap.size w W1) := hide (fun W1 h1 => (unhide HBW).trans (h1.mono (unhide HBW).size))
      have HNEW : Hid (Calls Tryd.prog 10 #[.string ⟨#[115, 104]⟩, .slice none 0 0] W fun e w' => ∃ b, e = .returned (.pointer (some ⟨b, 0, none⟩)) ∧ VAt w' b X ⟨[115, 104], [], [], 0⟩ ∧ Below W.heap.size W w') := hide (by
        refine (new_any [115, 104] _ [] W (sh_nil W) (by decide)).mono ?_
        rintro e w' ⟨h1, h2, h3⟩
        exact ⟨_, h1, by rw [hX]; exact h2, h3⟩)
      have HSET : Hid (∀ b W1, VAt W1 b X ⟨[115, 104], [], [], 0⟩ → Below W.heap.size W W1 → Calls Tryd.prog 22 #[.pointer (some ⟨b, 0, none⟩), .string (BA nm), .string (BA vl)] W1 fun e w' => ∃ r, e = .returned (.int .i64 r) ∧ VAt w' b X (rd0 nm vl true) ∧ Below W.heap.size W w') := hide (fun b W1 h1 h2 =>
        (set_any b X _ nm vl W1 (unhide HCL W1 h2) h1 (by omega) (by decide)).mono (fun e w' ⟨a1, a2, a3⟩ => ⟨_, a1, a2, unhide HGB W1 w' h2 a3⟩))
      have HGET : Hid (∀ b W1, VAt W1 b X (rd0 nm vl sets) → Below W.heap.size W W1 → Calls Tryd.prog 21 #[.pointer (some ⟨b, 0, none⟩), .string (BA nm)] W1 fun e w' => e = .returned (.tuple #[.string (BA (getL (rd0 nm vl sets).L nm).value), .bool (getL (rd0 nm vl sets).L nm).set]) ∧ VAt w' b X (rd0 nm vl sets) ∧ Below W.heap.size W w') := hide (fun b W1 h1 h2 =>
        (get_any b X _ nm W1 h1 (by omega)).mono (fun e w' ⟨a1, a2⟩ => ⟨a1, h1.below a2, h2.trans (a2.mono h2.size)⟩))
      have HRDO : Hid (∀ b W1, VAt W1 b X (rd0 nm vl sets) → Below W.heap.size W W1 → Calls Tryd.prog 23 #[.pointer (some ⟨b, 0, none⟩), .string (BA nm)] W1 fun e w' => e = .returned (.int .i64 (rdoS (rd0 nm vl sets) nm).2) ∧ VAt w' b X (rdoS (rd0 nm vl sets) nm).1 ∧ Below W.heap.size W w') := hide (fun b W1 h1 h2 =>
        (readonly_any b X _ nm W1 (unhide HCL W1 h2) h1 (by omega) (by have := (rd0_len nm vl sets).1; omega)).mono (fun e w' ⟨a1, a2, a3⟩ => ⟨a1, a2, unhide HGB W1 w' h2 a3⟩))
      obtain ⟨x0, hx0⟩ : ∃ x, x = getL (rd0 nm vl sets).L nm := ⟨_, rfl⟩
      obtain ⟨R, hR⟩ : ∃ R, R = rdoS (rd0 nm vl sets) nm := ⟨_, rfl⟩
      rw [← hx0] at HGET
      rw [← hR] at HRDO
      have HX0 := hide hx0
      have HRR := hide hR
      clear hx0 hR hX
      cases hnm : namL nm with
      | false =>
        have hr2 : R.2 = 16 := by rw [unhide HRR]; unfold rdoS; rw [if_pos hnm]
        have hs0 : x0.set = false := by rw [unhide HX0]; exact rd0_no hnm
        rw [hr2] at HRDO
        rw [hs0] at HGET
        clear hr2 hs0 hnm
        cases sets with
        | true =>
          go_enter Tryd.func5, Tryd.ntmps5
          go_upto_region 1 with fail
          rw [← hW, ← hnb]
          clear hW hnb
          go_wp2_with fail
          refine (unhide HFW _ (unhide HBW)).mono ?_
          rintro e w1 ⟨rfl, hw1⟩
          rw [show w1 = W from hw1]
          clear hw1
          go_wp2_with fail
          refine (unhide HNEW).mono ?_
          rintro e w2 ⟨b, rfl, v2, b2⟩
          have V := hide v2
          have B := hide b2
          have hb2 := (unhide HBK).below b2 (unhide HBK).lt
          have d1 : w2.cell? ⟨nb, 1, none⟩ = some (.string (BA vl)) := hb2.cell 1 rfl
          have d2 := hb2.cell 2 rfl
          clear v2 b2 hb2 HNEW
          go_wp2_with fail
          refine (unhide HSET _ _ (unhide V) (unhide B)).mono ?_
          clear V B d1 d2
          rintro e w3 ⟨r3, rfl, v3, b3⟩
          have V := hide v3
          have B := hide b3
          clear v3 b3
          go_wp2_with fail
          refine (unhide HGET _ _ (unhide V) (unhide B)).mono ?_
          clear V B
          rintro e w4 ⟨rfl, v4, b4⟩
          have V := hide v4
          have B := hide b4
          clear v4 b4
          go_wp2_with fail
          refine (unhide HRDO _ _ (unhide V) (unhide B)).mono ?_
          clear V B
          rintro e w5 ⟨rfl, v5, b5⟩
          have V := hide v5
          have B := hide b5
          clear v5 b5 HGET HRDO HSET e0 e1 e2 HBK
          go_wp2_with fail
          go_loopw [10] (fun i wr => i = .int .i64 0 ∧ Hid (Below w.heap.size w wr)) (fun _ _ => 0)
          case atStart => exact ⟨rfl, hide (unhide HWW _ (unhide B))⟩
          case round =>
            obtain ⟨rfl, HB⟩ := hrel
            by_cases hn0 : 0 < n
            all_goals
              go_wp2_with fail
              refine (unhide HAW _ (unhide HB)).mono ?_
              rintro e w6 ⟨rfl, b6⟩
              have HB6 := hide b6
              clear b6
              go_wp2
              go_ret
              exact ⟨rfl, unhide HB6⟩
        | false =>
          go_enter Tryd.func5, Tryd.ntmps5
          go_upto_region 1 with fail
          rw [← hW, ← hnb]
          clear hW hnb
          go_wp2_with fail
          refine (unhide HFW _ (unhide HBW)).mono ?_
          rintro e w1 ⟨rfl, hw1⟩
          rw [show w1 = W from hw1]
          clear hw1
          go_wp2_with fail
          refine (unhide HNEW).mono ?_
          rintro e w2 ⟨b, rfl, v2, b2⟩
          have V := hide v2
          have B := hide b2
          have hb2 := (unhide HBK).below b2 (unhide HBK).lt
          have d1 : w2.cell? ⟨nb, 1, none⟩ = some (.string (BA vl)) := hb2.cell 1 rfl
          have d2 := hb2.cell 2 rfl
          clear v2 b2 hb2 HNEW
          go_wp2_with fail
          have V2 : Hid (VAt w2 b X (rd0 nm vl false)) := V
          clear V d1 d2
          have V := V2
          clear V2
          refine (unhide HGET _ _ (unhide V) (unhide B)).mono ?_
          clear V B
          rintro e w4 ⟨rfl, v4, b4⟩
          have V := hide v4
          have B := hide b4
          clear v4 b4
          go_wp2_with fail
          refine (unhide HRDO _ _ (unhide V) (unhide B)).mono ?_
          clear V B
          rintro e w5 ⟨rfl, v5, b5⟩
          have V := hide v5
          have B := hide b5
          clear v5 b5 HGET HRDO HSET e0 e1 e2 HBK
          go_wp2_with fail
          go_loopw [10] (fun i wr => i = .int .i64 0 ∧ Hid (Below w.heap.size w wr)) (fun _ _ => 0)
          case atStart => exact ⟨rfl, hide (unhide HWW _ (unhide B))⟩
          case round =>
            obtain ⟨rfl, HB⟩ := hrel
            by_cases hn0 : 0 < n
            all_goals
              go_wp2_with fail
              refine (unhide HAW _ (unhide HB)).mono ?_
              rintro e w6 ⟨rfl, b6⟩
              have HB6 := hide b6
              clear b6
              go_wp2
              go_ret
              exact ⟨rfl, unhide HB6⟩
      | true =>
        obtain ⟨hst, hr2, hrl, hra⟩ := rdo_get (s := rd0 nm vl sets) hnm
        rw [← unhide HRR, ← unhide HX0] at hst
        rw [← unhide HRR] at hr2 hrl hra
        have HST := hide hst
        have HRL := hide (And.intro hrl hra)
        rw [hr2] at HRDO
        have HNM := hide hnm
        clear hr2 hst hrl hra hnm
        cases sets with
        | true =>
          go_enter Tryd.func5, Tryd.ntmps5
          go_upto_region 1 with fail
          rw [← hW, ← hnb]
          clear hW hnb
          go_wp2_with fail
          refine (unhide HFW _ (unhide HBW)).mono ?_
          rintro e w1 ⟨rfl, hw1⟩
          rw [show w1 = W from hw1]
          clear hw1
          go_wp2_with fail
          refine (unhide HNEW).mono ?_
          rintro e w2 ⟨b, rfl, v2, b2⟩
          have V := hide v2
          have B := hide b2
          have hb2 := (unhide HBK).below b2 (unhide HBK).lt
          have d1 : w2.cell? ⟨nb, 1, none⟩ = some (.string (BA vl)) := hb2.cell 1 rfl
          have d2 := hb2.cell 2 rfl
          clear v2 b2 hb2 HNEW
          go_wp2_with fail
          refine (unhide HSET _ _ (unhide V) (unhide B)).mono ?_
          clear V B d1 d2
          rintro e w3 ⟨r3, rfl, v3, b3⟩
          have V := hide v3
          have B := hide b3
          clear v3 b3
          go_wp2_with fail
          refine (unhide HGET _ _ (unhide V) (unhide B)).mono ?_
          clear V B
          rintro e w4 ⟨rfl, v4, b4⟩
          have V := hide v4
          have B := hide b4
          clear v4 b4
          go_wp2_with fail
          refine (unhide HRDO _ _ (unhide V) (unhide B)).mono ?_
          clear V B
          rintro e w5 ⟨rfl, v5, b5⟩
          have V := hide v5
          have B := hide b5
          clear v5 b5 HGET HRDO HSET e0 e1 e2 HBK
          go_wp2_with fail
          go_loopw [10] (fun i wr => ∃ (k : Nat) (s : VSt), i = .int .i64 k ∧ k ≤ n ∧ Hid (RdAt W b X nm x0 k wr s)) (fun i _ => n - (intOf i).toNat)
          case atStart => exact ⟨0, R.1, rfl, Nat.zero_le _, hide ⟨unhide V, unhide B, unhide HST, by have := (rd0_len nm vl true).1; have := (unhide HRL).1; omega, by rw [(unhide HRL).2, (rd0_len nm vl true).2]; decide⟩⟩
          case round =>
            obtain ⟨k, s, rfl, hk, HI⟩ := hrel
            clear V B
            by_cases hlt : k < n
            · obtain ⟨o, ho⟩ := get_ex (l := L) (k := k) (by have := unhide HN; omega)
              obtain ⟨g, q, u, had, hg, a0, a1, a2, a3, a4, a5⟩ := ((unhide HH).below (unhide HWW _ (unhide HI).below)).op ho
              subst had
              obtain ⟨ho1, ho2, ho3⟩ := opB_of (unhide HFB) ho
              have hn60 : n ≤ 60 := by have := len_of (unhide HFB); have := unhide HN; omega
              have HDO : Hid (Calls Tryd.prog 11 #[.pointer (some ⟨b, 0, none⟩), .agg #[.int .i64 o.kind, .string (BA o.name), .string (BA o.value), .int .i64 o.n, u]] wr fun e w' => e = .returned (.int .i64 (stepS s o).2) ∧ RdAt W b X nm x0 (k + 1) w' (stepS s o).1) := hide (by
                have hI := unhide HI
                refine (do_any b X s o u wr (unhide HCL _ hI.below) hI.at_ a5 (by omega) (by omega) (by have := hI.few; omega) (by have := hI.args; omega)).mono ?_
                rintro e w' ⟨h1, h2, h3⟩
                exact ⟨h1, h2, unhide HGB _ _ hI.below h3, hI.stays.trans (step_stays o hI.stays.ro), by have := step_len s o; have := hI.few; omega, step_args s o 20 hI.args ho3⟩)
              have HR15 : Hid (o.name = nm → kndI o.kind < 3 → (stepS s o).2 = 15) := hide (fun e1 e2 => step_reads (by rw [e1]; exact (unhide HI).stays.ro) (by rw [e1]; exact unhide HNM) e2)
              obtain ⟨r, hr⟩ : ∃ r, r = (stepS s o).2 := ⟨_, rfl⟩
              obtain ⟨s', hs'⟩ : ∃ s', s' = (stepS s o).1 := ⟨_, rfl⟩
              rw [← hr] at HDO HR15
              rw [← hs'] at HDO
              have HO := hide ho
              obtain ⟨au, acap, hu, _⟩ := id a5
              subst hu
              have hlt1 : (k : Int) < (n : Int) := by omega
              have hk0 : (0 : Int) ≤ (k : Int) := by omega
              clear hr hs' ho a5 ho1 ho2 ho3 hg HI
              go_wp2_with fail
              refine (unhide HDO).mono ?_
              rintro e w6 ⟨rfl, hI6⟩
              have HI6 := hide hI6
              clear hI6 HDO a0 a1 a2 a3 a4
              obtain ⟨g', q', u', had, hg, a0, a1, a2, a3, a4, a5⟩ := ((unhide HH).below (unhide HWW _ (unhide HI6).below)).op (unhide HO)
              injection had with had
              injection had with hgg hqq _
              subst hgg hqq
              obtain ⟨au', acap', hu', _⟩ := id a5
              subst hu'
              clear a5 hg
              have HGT : Hid (∀ W1, RdAt W b X nm x0 (k + 1) W1 s' → Calls Tryd.prog 21 #[.pointer (some ⟨b, 0, none⟩), .string (BA nm)] W1 fun e w' => e = .returned (.tuple #[.string (BA x0.value), .bool x0.set]) ∧ RdAt W b X nm x0 (k + 1) w' s') := hide (fun W1 hI => by
                have := get_any b X s' nm W1 hI.at_ (by omega)
                rw [hI.stays.value, hI.stays.set] at this
                exact this.mono (fun e w' ⟨h1, h2⟩ => ⟨h1, hI.at_.below h2, hI.below.trans (h2.mono hI.below.size), hI.stays, hI.few, hI.args⟩))
              have HKD := hide (kind_any o.kind o.n (BA o.name) (BA o.value) (.slice au' o.args.length acap') w6)
              by_cases hnn : o.name = nm
              · have hnn1 : ((BA o.name).toList == (BA nm).toList) = true := by rw [hnn]; simp
                have H15 := hide (unhide HR15 hnn)
                clear HR15 hnn
                obtain ⟨kd, hkd⟩ : ∃ kd, kd = kndI o.kind := ⟨_, rfl⟩
                rw [← hkd] at HKD H15
                clear hkd
                by_cases hk3 : kd < 3
                · obtain rfl := unhide H15 hk3
                  clear H15
                  go_wp2_with fail
                  refine (unhide HKD).mono ?_
                  rintro e w7 ⟨rfl, b7⟩
                  have HI7 : Hid (RdAt W b X nm x0 (k + 1) w7 s') := hide ⟨(unhide HI6).at_.below b7, (unhide HI6).below.trans (b7.mono (unhide HI6).below.size), (unhide HI6).stays, (unhide HI6).few, (unhide HI6).args⟩
                  clear b7 HKD
                  go_wp2_with fail
                  refine (unhide HGT _ (unhide HI7)).mono ?_
                  rintro e w8 ⟨rfl, hI8⟩
                  have HI8 := hide hI8
                  clear hI8
                  go_wp2
                  go_roundw
                  case rel => exact ⟨k + 1, s', by go_num, by omega, HI8⟩
                  case measure => simp [intOf]; omega
                · clear H15
                  go_wp2_with fail
                  refine (unhide HKD).mono ?_
                  rintro e w7 ⟨rfl, b7⟩
                  have HI7 : Hid (RdAt W b X nm x0 (k + 1) w7 s') := hide ⟨(unhide HI6).at_.below b7, (unhide HI6).below.trans (b7.mono (unhide HI6).below.size), (unhide HI6).stays, (unhide HI6).few, (unhide HI6).args⟩
                  clear b7 HKD
                  go_wp2_with fail
                  refine (unhide HGT _ (unhide HI7)).mono ?_
                  rintro e w8 ⟨rfl, hI8⟩
                  have HI8 := hide hI8
                  clear hI8
                  go_wp2
                  go_roundw
                  case rel => exact ⟨k + 1, s', by go_num, by omega, HI8⟩
                  case measure => simp [intOf]; omega
              · have hnn1 : ((BA o.name).toList == (BA nm).toList) = false := by rw [BA_toList, BA_toList]; simpa using hnn
                clear HR15 hnn HKD
                go_wp2_with fail
                refine (unhide HGT _ (unhide HI6)).mono ?_
                rintro e w8 ⟨rfl, hI8⟩
                have HI8 := hide hI8
                clear hI8
                go_wp2
                go_roundw
                case rel => exact ⟨k + 1, s', by go_num, by omega, HI8⟩
                case measure => simp [intOf]; omega
            · have hlt1 : ¬ (k : Int) < (n : Int) := by omega
              go_wp2_with fail
              refine (unhide HAW _ (unhide HWW _ (unhide HI).below)).mono ?_
              rintro e w6 ⟨rfl, b6⟩
              have HB6 := hide b6
              clear b6
              go_wp2
              go_ret
              exact ⟨rfl, unhide HB6⟩
        | false =>
          go_enter Tryd.func5, Tryd.ntmps5
          go_upto_region 1 with fail
          rw [← hW, ← hnb]
          clear hW hnb
          go_wp2_with fail
          refine (unhide HFW _ (unhide HBW)).mono ?_
          rintro e w1 ⟨rfl, hw1⟩
          rw [show w1 = W from hw1]
          clear hw1
          go_wp2_with fail
          refine (unhide HNEW).mono ?_
          rintro e w2 ⟨b, rfl, v2, b2⟩
          have V := hide v2
          have B := hide b2
          have hb2 := (unhide HBK).below b2 (unhide HBK).lt
          have d1 : w2.cell? ⟨nb, 1, none⟩ = some (.string (BA vl)) := hb2.cell 1 rfl
          have d2 := hb2.cell 2 rfl
          clear v2 b2 hb2 HNEW
          go_wp2_with fail
          have V2 : Hid (VAt w2 b X (rd0 nm vl false)) := V
          clear V d1 d2
          have V := V2
          clear V2
          refine (unhide HGET _ _ (unhide V) (unhide B)).mono ?_
          clear V B
          rintro e w4 ⟨rfl, v4, b4⟩
          have V := hide v4
          have B := hide b4
          clear v4 b4
          go_wp2_with fail
          refine (unhide HRDO _ _ (unhide V) (unhide B)).mono ?_
          clear V B
          rintro e w5 ⟨rfl, v5, b5⟩
          have V := hide v5
          have B := hide b5
          clear v5 b5 HGET HRDO HSET e0 e1 e2 HBK
          go_wp2_with fail
          go_loopw [10] (fun i wr => ∃ (k : Nat) (s : VSt), i = .int .i64 k ∧ k ≤ n ∧ Hid (RdAt W b X nm x0 k wr s)) (fun i _ => n - (intOf i).toNat)
          case atStart => exact ⟨0, R.1, rfl, Nat.zero_le _, hide ⟨unhide V, unhide B, unhide HST, by have := (rd0_len nm vl false).1; have := (unhide HRL).1; omega, by rw [(unhide HRL).2, (rd0_len nm vl false).2]; decide⟩⟩
          case round =>
            obtain ⟨k, s, rfl, hk, HI⟩ := hrel
            clear V B
            by_cases hlt : k < n
            · obtain ⟨o, ho⟩ := get_ex (l := L) (k := k) (by have := unhide HN; omega)
              obtain ⟨g, q, u, had, hg, a0, a1, a2, a3, a4, a5⟩ := ((unhide HH).below (unhide HWW _ (unhide HI).below)).op ho
              subst had
              obtain ⟨ho1, ho2, ho3⟩ := opB_of (unhide HFB) ho
              have hn60 : n ≤ 60 := by have := len_of (unhide HFB); have := unhide HN; omega
              have HDO : Hid (Calls Tryd.prog 11 #[.pointer (some ⟨b, 0, none⟩), .agg #[.int .i64 o.kind, .string (BA o.name), .string (BA o.value), .int .i64 o.n, u]] wr fun e w' => e = .returned (.int .i64 (stepS s o).2) ∧ RdAt W b X nm x0 (k + 1) w' (stepS s o).1) := hide (by
                have hI := unhide HI
                refine (do_any b X s o u wr (unhide HCL _ hI.below) hI.at_ a5 (by omega) (by omega) (by have := hI.few; omega) (by have := hI.args; omega)).mono ?_
                rintro e w' ⟨h1, h2, h3⟩
                exact ⟨h1, h2, unhide HGB _ _ hI.below h3, hI.stays.trans (step_stays o hI.stays.ro), by have := step_len s o; have := hI.few; omega, step_args s o 20 hI.args ho3⟩)
              have HR15 : Hid (o.name = nm → kndI o.kind < 3 → (stepS s o).2 = 15) := hide (fun e1 e2 => step_reads (by rw [e1]; exact (unhide HI).stays.ro) (by rw [e1]; exact unhide HNM) e2)
              obtain ⟨r, hr⟩ : ∃ r, r = (stepS s o).2 := ⟨_, rfl⟩
              obtain ⟨s', hs'⟩ : ∃ s', s' = (stepS s o).1 := ⟨_, rfl⟩
              rw [← hr] at HDO HR15
              rw [← hs'] at HDO
              have HO := hide ho
              obtain ⟨au, acap, hu, _⟩ := id a5
              subst hu
              have hlt1 : (k : Int) < (n : Int) := by omega
              have hk0 : (0 : Int) ≤ (k : Int) := by omega
              clear hr hs' ho a5 ho1 ho2 ho3 hg HI
              go_wp2_with fail
              refine (unhide HDO).mono ?_
              rintro e w6 ⟨rfl, hI6⟩
              have HI6 := hide hI6
              clear hI6 HDO a0 a1 a2 a3 a4
              obtain ⟨g', q', u', had, hg, a0, a1, a2, a3, a4, a5⟩ := ((unhide HH).below (unhide HWW _ (unhide HI6).below)).op (unhide HO)
              injection had with had
              injection had with hgg hqq _
              subst hgg hqq
              obtain ⟨au', acap', hu', _⟩ := id a5
              subst hu'
              clear a5 hg
              have HGT : Hid (∀ W1, RdAt W b X nm x0 (k + 1) W1 s' → Calls Tryd.prog 21 #[.pointer (some ⟨b, 0, none⟩), .string (BA nm)] W1 fun e w' => e = .returned (.tuple #[.string (BA x0.value), .bool x0.set]) ∧ RdAt W b X nm x0 (k + 1) w' s') := hide (fun W1 hI => by
                have := get_any b X s' nm W1 hI.at_ (by omega)
                rw [hI.stays.value, hI.stays.set] at this
                exact this.mono (fun e w' ⟨h1, h2⟩ => ⟨h1, hI.at_.below h2, hI.below.trans (h2.mono hI.below.size), hI.stays, hI.few, hI.args⟩))
              have HKD := hide (kind_any o.kind o.n (BA o.name) (BA o.value) (.slice au' o.args.length acap') w6)
              by_cases hnn : o.name = nm
              · have hnn1 : ((BA o.name).toList == (BA nm).toList) = true := by rw [hnn]; simp
                have H15 := hide (unhide HR15 hnn)
                clear HR15 hnn
                obtain ⟨kd, hkd⟩ : ∃ kd, kd = kndI o.kind := ⟨_, rfl⟩
                rw [← hkd] at HKD H15
                clear hkd
                by_cases hk3 : kd < 3
                · obtain rfl := unhide H15 hk3
                  clear H15
                  go_wp2_with fail
                  refine (unhide HKD).mono ?_
                  rintro e w7 ⟨rfl, b7⟩
                  have HI7 : Hid (RdAt W b X nm x0 (k + 1) w7 s') := hide ⟨(unhide HI6).at_.below b7, (unhide HI6).below.trans (b7.mono (unhide HI6).below.size), (unhide HI6).stays, (unhide HI6).few, (unhide HI6).args⟩
                  clear b7 HKD
                  go_wp2_with fail
                  refine (unhide HGT _ (unhide HI7)).mono ?_
                  rintro e w8 ⟨rfl, hI8⟩
                  have HI8 := hide hI8
                  clear hI8
                  go_wp2
                  go_roundw
                  case rel => exact ⟨k + 1, s', by go_num, by omega, HI8⟩
                  case measure => simp [intOf]; omega
                · clear H15
                  go_wp2_with fail
                  refine (unhide HKD).mono ?_
                  rintro e w7 ⟨rfl, b7⟩
                  have HI7 : Hid (RdAt W b X nm x0 (k + 1) w7 s') := hide ⟨(unhide HI6).at_.below b7, (unhide HI6).below.trans (b7.mono (unhide HI6).below.size), (unhide HI6).stays, (unhide HI6).few, (unhide HI6).args⟩
                  clear b7 HKD
                  go_wp2_with fail
                  refine (unhide HGT _ (unhide HI7)).mono ?_
                  rintro e w8 ⟨rfl, hI8⟩
                  have HI8 := hide hI8
                  clear hI8
                  go_wp2
                  go_roundw
                  case rel => exact ⟨k + 1, s', by go_num, by omega, HI8⟩
                  case measure => simp [intOf]; omega
              · have hnn1 : ((BA o.name).toList == (BA nm).toList) = false := by rw [BA_toList, BA_toList]; simpa using hnn
                clear HR15 hnn HKD
                go_wp2_with fail
                refine (unhide HGT _ (unhide HI6)).mono ?_
                rintro e w8 ⟨rfl, hI8⟩
                have HI8 := hide hI8
                clear hI8
                go_wp2
                go_roundw
                case rel => exact ⟨k + 1, s', by go_num, by omega, HI8⟩
                case measure => simp [intOf]; omega
            · have hlt1 : ¬ (k : Int) < (n : Int) := by omega
              go_wp2_with fail
              refine (unhide HAW _ (unhide HWW _ (unhide HI).below)).mono ?_
              rintro e w6 ⟨rfl, b6⟩
              have HB6 := hide b6
              clear b6
              go_wp2
              go_ret
              exact ⟨rfl, unhide HB6⟩

end Go.Proofs.YtbcbnoeplapblaaDoor

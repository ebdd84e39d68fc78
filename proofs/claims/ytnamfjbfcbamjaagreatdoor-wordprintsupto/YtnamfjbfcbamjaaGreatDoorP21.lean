/-
  The document's part: a Var with a Word.
  The document's part: what is no Var.
-/
import Derived.Test.YtnamfjbfcbamjaaGreatDoorP19
import Derived.Deep.DeepCutAuto
import Derived.Deep.CutRange
namespace Go.Proofs.YtnamfjbfcbamjaaGreatDoor
open Go.RowKit
set_option maxRecDepth 20000 in
set_option maxHeartbeats 8000000 in
theorem rpart_df (t : List UInt8) (q : Bool) (op : Int) (h2 : 2 ≤ op) (h9 : op ≤ 9) (v : Value) (s : List Prt) (w : World) (k y nx : Nat) (mb : Bool) (HWY : Hid (wayR k y)) (HMB : Hid (mrkB k q = mb)) (ht : t.length ≤ 10000)
    (HWR : Hid (∀ W, Below w.heap.size w W → Calls Tryz.prog 22 #[v, .int .i64 (nx : Int)] W fun e w' => ∃ s', e = .returned (.string (BA s')) ∧ Below W.heap.size W w' ∧ (ShA s → s' = wrdT (nxtT k q op) s) ∧ s'.length ≤ 9 * tszL s)) (HNX : Hid (nx = nxtR y q op)) (hz : tszL s ≤ 1000) :
    Calls Tryz.prog 36 #[.agg #[.int .i64 2, .string (BA t), .bool q, .int .i64 op, .bool false, v], .int .i64 (y : Int)] w fun e w' => ∃ a, e = .returned (.string (BA a)) ∧ Below w.heap.size w w' ∧ (ShP (.mk 2 t q op false s) → a = prtT k (.mk 2 t q op false s)) ∧ a.length ≤ 9 * tszP (.mk 2 t q op false s) := by
  have HEQ : Hid (∀ st, dolOf 2 t op false st = [36, 123] ++ t ++ opT op ++ st ++ [125]) := hide (fun st => by rw [dolOf_dp _ _ _ _ h2 h9]; simp)
  obtain ⟨n1, hn1⟩ : ∃ n1 : Nat, n1 = if 6 ≤ op then 4 else 3 := ⟨_, rfl⟩
  have hlt : ¬ op < 0 := by omega
  have hgt : ¬ 9 < op := by omega
  have hne1 : (op == 1) = false := by rw [beq_eq_false_iff_ne]; omega
  have HSG : Hid (∀ W, Calls Tryz.prog 56 #[.int .i64 op] W fun e w' => e = .returned (.string (BA (opT op))) ∧ Below W.heap.size W w') := hide (fun W => rsign_any op (by omega) h9 W)
  have hol := opT_len op
  obtain ⟨nb, hnb⟩ : ∃ nb, nb = (!q && (y == 0 || y == 1)) := ⟨_, rfl⟩
  have HN2 : Hid (nx = if nb then 1 else n1) := hide (by rw [unhide HNX, hnb, hn1, nxtR_nb])
  have HN1 := hide hn1
  have HNB := hide hnb
  clear hn1 hnb
  go_enter Tryz.func36, Tryz.ntmps36
  go_wp2_with fail
  refine (unhide HSG _).mono ?_
  rintro e ws ⟨rfl, bs⟩
  have HB : Hid (Blk ws w.heap.size 37 #[.int .i64 2, .string (BA t), .bool q, .int .i64 op, .bool false, v]) := hide (Blk.below (Blk.new w _ _) bs (by simp))
  have HBW : Hid (Below w.heap.size w ws) := hide (((Below.refl _ w).alloc (Nat.le_refl _) _).trans (bs.mono (by simp)))
  clear bs
  have p0 : ws.cell? ⟨w.heap.size, 0, none⟩ = some (.int .i64 2) := (unhide HB).cell 0 rfl
  have p1 : ws.cell? ⟨w.heap.size, 1, none⟩ = some (.string (BA t)) := (unhide HB).cell 1 rfl
  have p2 : ws.cell? ⟨w.heap.size, 2, none⟩ = some (.bool q) := (unhide HB).cell 2 rfl
  have p3 : ws.cell? ⟨w.heap.size, 3, none⟩ = some (.int .i64 op) := (unhide HB).cell 3 rfl
  have p4 : ws.cell? ⟨w.heap.size, 4, none⟩ = some (.bool false) := (unhide HB).cell 4 rfl
  have p5 : ws.cell? ⟨w.heap.size, 5, none⟩ = some v := (unhide HB).cell 5 rfl
  go_upto_if 49 with fail
  go_cut [6] from 47 to 49 (fun x wx => x = .int .i64 (n1 : Int) ∧ wx = ws)
  case first =>
    by_cases h6 : 6 ≤ op
    · have hn : n1 = 4 := (unhide HN1).trans (if_pos h6)
      subst hn
      go_wp2
      go_meet
      exact ⟨rfl, rfl⟩
    · have hn : n1 = 3 := (unhide HN1).trans (if_neg h6)
      subst hn
      go_wp2
      go_meet
      exact ⟨rfl, rfl⟩
  case rest =>
    obtain ⟨rfl, rfl⟩ := hcut
    go_upto_region 21 with fail
    go_cut [60] from 50 to 60 (fun x wx => x = .bool nb ∧ wx = wc)
    case first =>
      cases q
      · rcases unhide HWY with ⟨rfl, rfl | rfl⟩ | ⟨rfl, rfl⟩ | ⟨rfl, rfl⟩ | ⟨rfl, rfl⟩
        all_goals
          first
          | (have hx : nb = true := (unhide HNB).trans (by decide)
             subst hx
             go_wp2
             go_meet
             exact ⟨rfl, rfl⟩)
          | (have hx : nb = false := (unhide HNB).trans (by decide)
             subst hx
             go_wp2
             go_meet
             exact ⟨rfl, rfl⟩)
      · have hx : nb = false := (unhide HNB).trans (by simp)
        subst hx
        go_wp2
        go_meet
        exact ⟨rfl, rfl⟩
    case rest =>
      obtain ⟨rfl, rfl⟩ := hcut
      go_upto_if 60 with fail
      go_cut [6] from 60 to 60 (fun x wx => x = .int .i64 (nx : Int) ∧ wx = wc)
      case first =>
        cases nb
        · have hx : nx = n1 := (unhide HN2).trans rfl
          subst hx
          go_wp2
          go_meet
          exact ⟨rfl, rfl⟩
        · have hx : nx = 1 := (unhide HN2).trans rfl
          subst hx
          go_wp2
          go_meet
          exact ⟨rfl, rfl⟩
      case rest =>
        obtain ⟨rfl, rfl⟩ := hcut
        go_wp2_with fail
        refine (unhide HWR _ (unhide HBW)).mono ?_
        rintro e wt ⟨st, rfl, bt, hst, hstl⟩
        have HB2 : Hid (Blk wt w.heap.size 37 #[.int .i64 2, .string (BA t), .bool q, .int .i64 op, .bool false, v]) := hide ((unhide HB).below bt (unhide HB).lt)
        have HBT : Hid (Below w.heap.size w wt) := hide ((unhide HBW).trans (bt.mono (unhide HBW).size))
        have HST := hide hst
        have HSL := hide hstl
        have hs9 : st.length ≤ 9000 := by omega
        clear bt hst hstl p0 p1 p2 p3 p4 p5
        have p0 : wt.cell? ⟨w.heap.size, 0, none⟩ = some (.int .i64 2) := (unhide HB2).cell 0 rfl
        have p1 : wt.cell? ⟨w.heap.size, 1, none⟩ = some (.string (BA t)) := (unhide HB2).cell 1 rfl
        have p2 : wt.cell? ⟨w.heap.size, 2, none⟩ = some (.bool q) := (unhide HB2).cell 2 rfl
        have p3 : wt.cell? ⟨w.heap.size, 3, none⟩ = some (.int .i64 op) := (unhide HB2).cell 3 rfl
        have p4 : wt.cell? ⟨w.heap.size, 4, none⟩ = some (.bool false) := (unhide HB2).cell 4 rfl
        have p5 : wt.cell? ⟨w.heap.size, 5, none⟩ = some v := (unhide HB2).cell 5 rfl
        go_upto_region 30 with fail
        go_cut [97] from 84 to 97 (fun x wx => x = .bool mb ∧ wx = wt)
        case first =>
          cases q
          · have hmb : mb = false := (unhide HMB).symm.trans (by simp [mrkB])
            subst hmb
            go_wp2
            go_meet
            exact ⟨rfl, rfl⟩
          · rcases unhide HWY with ⟨rfl, rfl | rfl⟩ | ⟨rfl, rfl⟩ | ⟨rfl, rfl⟩ | ⟨rfl, rfl⟩
            all_goals
              first
              | (have hmb : mb = true := (unhide HMB).symm.trans (by decide)
                 subst hmb
                 go_wp2
                 go_meet
                 exact ⟨rfl, rfl⟩)
              | (have hmb : mb = false := (unhide HMB).symm.trans (by decide)
                 subst hmb
                 go_wp2
                 go_meet
                 exact ⟨rfl, rfl⟩)
        case rest =>
          obtain ⟨rfl, rfl⟩ := hcut
          cases mb
          all_goals
            go_wp2
            go_ret
            refine ⟨mrkd (mrkB k q) ([36, 123] ++ t ++ opT op ++ st ++ [125]), ret_str (by rw [unhide HMB]; apply ba_ext; simp [mrkd]), unhide HBT, fun hsh => ?_, ?_⟩
            · rw [prtT_is (by decide), unhide HEQ]
              rw [unhide HST (ShA_sub hsh)]
            · rw [tszP_eq]
              have h1 := mrkd_len (mrkB k q) ([36, 123] ++ t ++ opT op ++ st ++ [125])
              have h2 := unhide HSL
              simp [Prt.text, Prt.sub] at h1 ⊢
              omega
set_option maxRecDepth 20000 in
set_option maxHeartbeats 8000000 in
theorem rpart_dt (t : List UInt8) (q : Bool) (op : Int) (h2 : 2 ≤ op) (h9 : op ≤ 9) (v : Value) (s : List Prt) (w : World) (k y nx : Nat) (mb : Bool) (HWY : Hid (wayR k y)) (HMB : Hid (mrkB k q = mb)) (ht : t.length ≤ 10000)
    (HWR : Hid (∀ W, Below w.heap.size w W → Calls Tryz.prog 22 #[v, .int .i64 (nx : Int)] W fun e w' => ∃ s', e = .returned (.string (BA s')) ∧ Below W.heap.size W w' ∧ (ShA s → s' = wrdT (nxtT k q op) s) ∧ s'.length ≤ 9 * tszL s)) (HNX : Hid (nx = nxtR y q op)) (hz : tszL s ≤ 1000) :
    Calls Tryz.prog 36 #[.agg #[.int .i64 2, .string (BA t), .bool q, .int .i64 op, .bool true, v], .int .i64 (y : Int)] w fun e w' => ∃ a, e = .returned (.string (BA a)) ∧ Below w.heap.size w w' ∧ (ShP (.mk 2 t q op true s) → a = prtT k (.mk 2 t q op true s)) ∧ a.length ≤ 9 * tszP (.mk 2 t q op true s) := by
  have HEQ : Hid (∀ st, dolOf 2 t op true st = [36, 123] ++ t ++ [58] ++ opT op ++ st ++ [125]) := hide (fun st => by rw [dolOf_dp _ _ _ _ h2 h9]; simp)
  obtain ⟨n1, hn1⟩ : ∃ n1 : Nat, n1 = if 6 ≤ op then 4 else 3 := ⟨_, rfl⟩
  have hlt : ¬ op < 0 := by omega
  have hgt : ¬ 9 < op := by omega
  have hne1 : (op == 1) = false := by rw [beq_eq_false_iff_ne]; omega
  have HSG : Hid (∀ W, Calls Tryz.prog 56 #[.int .i64 op] W fun e w' => e = .returned (.string (BA (opT op))) ∧ Below W.heap.size W w') := hide (fun W => rsign_any op (by omega) h9 W)
  have hol := opT_len op
  obtain ⟨nb, hnb⟩ : ∃ nb, nb = (!q && (y == 0 || y == 1)) := ⟨_, rfl⟩
  have HN2 : Hid (nx = if nb then 1 else n1) := hide (by rw [unhide HNX, hnb, hn1, nxtR_nb])
  have HN1 := hide hn1
  have HNB := hide hnb
  clear hn1 hnb
  go_enter Tryz.func36, Tryz.ntmps36
  go_wp2_with fail
  refine (unhide HSG _).mono ?_
  rintro e ws ⟨rfl, bs⟩
  have HB : Hid (Blk ws w.heap.size 37 #[.int .i64 2, .string (BA t), .bool q, .int .i64 op, .bool true, v]) := hide (Blk.below (Blk.new w _ _) bs (by simp))
  have HBW : Hid (Below w.heap.size w ws) := hide (((Below.refl _ w).alloc (Nat.le_refl _) _).trans (bs.mono (by simp)))
  clear bs
  have p0 : ws.cell? ⟨w.heap.size, 0, none⟩ = some (.int .i64 2) := (unhide HB).cell 0 rfl
  have p1 : ws.cell? ⟨w.heap.size, 1, none⟩ = some (.string (BA t)) := (unhide HB).cell 1 rfl
  have p2 : ws.cell? ⟨w.heap.size, 2, none⟩ = some (.bool q) := (unhide HB).cell 2 rfl
  have p3 : ws.cell? ⟨w.heap.size, 3, none⟩ = some (.int .i64 op) := (unhide HB).cell 3 rfl
  have p4 : ws.cell? ⟨w.heap.size, 4, none⟩ = some (.bool true) := (unhide HB).cell 4 rfl
  have p5 : ws.cell? ⟨w.heap.size, 5, none⟩ = some v := (unhide HB).cell 5 rfl
  go_upto_if 49 with fail
  go_cut [6] from 47 to 49 (fun x wx => x = .int .i64 (n1 : Int) ∧ wx = ws)
  case first =>
    by_cases h6 : 6 ≤ op
    · have hn : n1 = 4 := (unhide HN1).trans (if_pos h6)
      subst hn
      go_wp2
      go_meet
      exact ⟨rfl, rfl⟩
    · have hn : n1 = 3 := (unhide HN1).trans (if_neg h6)
      subst hn
      go_wp2
      go_meet
      exact ⟨rfl, rfl⟩
  case rest =>
    obtain ⟨rfl, rfl⟩ := hcut
    go_upto_region 21 with fail
    go_cut [60] from 50 to 60 (fun x wx => x = .bool nb ∧ wx = wc)
    case first =>
      cases q
      · rcases unhide HWY with ⟨rfl, rfl | rfl⟩ | ⟨rfl, rfl⟩ | ⟨rfl, rfl⟩ | ⟨rfl, rfl⟩
        all_goals
          first
          | (have hx : nb = true := (unhide HNB).trans (by decide)
             subst hx
             go_wp2
             go_meet
             exact ⟨rfl, rfl⟩)
          | (have hx : nb = false := (unhide HNB).trans (by decide)
             subst hx
             go_wp2
             go_meet
             exact ⟨rfl, rfl⟩)
      · have hx : nb = false := (unhide HNB).trans (by simp)
        subst hx
        go_wp2
        go_meet
        exact ⟨rfl, rfl⟩
    case rest =>
      obtain ⟨rfl, rfl⟩ := hcut
      go_upto_if 60 with fail
      go_cut [6] from 60 to 60 (fun x wx => x = .int .i64 (nx : Int) ∧ wx = wc)
      case first =>
        cases nb
        · have hx : nx = n1 := (unhide HN2).trans rfl
          subst hx
          go_wp2
          go_meet
          exact ⟨rfl, rfl⟩
        · have hx : nx = 1 := (unhide HN2).trans rfl
          subst hx
          go_wp2
          go_meet
          exact ⟨rfl, rfl⟩
      case rest =>
        obtain ⟨rfl, rfl⟩ := hcut
        go_wp2_with fail
        refine (unhide HWR _ (unhide HBW)).mono ?_
        rintro e wt ⟨st, rfl, bt, hst, hstl⟩
        have HB2 : Hid (Blk wt w.heap.size 37 #[.int .i64 2, .string (BA t), .bool q, .int .i64 op, .bool true, v]) := hide ((unhide HB).below bt (unhide HB).lt)
        have HBT : Hid (Below w.heap.size w wt) := hide ((unhide HBW).trans (bt.mono (unhide HBW).size))
        have HST := hide hst
        have HSL := hide hstl
        have hs9 : st.length ≤ 9000 := by omega
        clear bt hst hstl p0 p1 p2 p3 p4 p5
        have p0 : wt.cell? ⟨w.heap.size, 0, none⟩ = some (.int .i64 2) := (unhide HB2).cell 0 rfl
        have p1 : wt.cell? ⟨w.heap.size, 1, none⟩ = some (.string (BA t)) := (unhide HB2).cell 1 rfl
        have p2 : wt.cell? ⟨w.heap.size, 2, none⟩ = some (.bool q) := (unhide HB2).cell 2 rfl
        have p3 : wt.cell? ⟨w.heap.size, 3, none⟩ = some (.int .i64 op) := (unhide HB2).cell 3 rfl
        have p4 : wt.cell? ⟨w.heap.size, 4, none⟩ = some (.bool true) := (unhide HB2).cell 4 rfl
        have p5 : wt.cell? ⟨w.heap.size, 5, none⟩ = some v := (unhide HB2).cell 5 rfl
        go_upto_region 30 with fail
        go_cut [97] from 84 to 97 (fun x wx => x = .bool mb ∧ wx = wt)
        case first =>
          cases q
          · have hmb : mb = false := (unhide HMB).symm.trans (by simp [mrkB])
            subst hmb
            go_wp2
            go_meet
            exact ⟨rfl, rfl⟩
          · rcases unhide HWY with ⟨rfl, rfl | rfl⟩ | ⟨rfl, rfl⟩ | ⟨rfl, rfl⟩ | ⟨rfl, rfl⟩
            all_goals
              first
              | (have hmb : mb = true := (unhide HMB).symm.trans (by decide)
                 subst hmb
                 go_wp2
                 go_meet
                 exact ⟨rfl, rfl⟩)
              | (have hmb : mb = false := (unhide HMB).symm.trans (by decide)
                 subst hmb
                 go_wp2
                 go_meet
                 exact ⟨rfl, rfl⟩)
        case rest =>
          obtain ⟨rfl, rfl⟩ := hcut
          cases mb
          all_goals
            go_wp2
            go_ret
            refine ⟨mrkd (mrkB k q) ([36, 123] ++ t ++ [58] ++ opT op ++ st ++ [125]), ret_str (by rw [unhide HMB]; apply ba_ext; simp [mrkd]), unhide HBT, fun hsh => ?_, ?_⟩
            · rw [prtT_is (by decide), unhide HEQ]
              rw [unhide HST (ShA_sub hsh)]
            · rw [tszP_eq]
              have h1 := mrkd_len (mrkB k q) ([36, 123] ++ t ++ [58] ++ opT op ++ st ++ [125])
              have h2 := unhide HSL
              simp [Prt.text, Prt.sub] at h1 ⊢
              omega
end Go.Proofs.YtnamfjbfcbamjaaGreatDoor
namespace Go.Proofs.YtnamfjbfcbamjaaGreatDoor
open Go.RowKit
set_option maxRecDepth 20000 in
set_option maxHeartbeats 8000000 in
theorem rpart_3 (t : List UInt8) (q : Bool) (op : Int) (c : Bool) (v : Value) (s : List Prt) (w : World) (k y : Nat) (mb : Bool) (HWY : Hid (wayR k y)) (HMB : Hid (mrkB k q = mb)) (ht : t.length ≤ 10000) :
    Calls Tryz.prog 36 #[.agg #[.int .i64 3, .string (BA t), .bool q, .int .i64 op, .bool c, v], .int .i64 (y : Int)] w fun e w' => ∃ a, e = .returned (.string (BA a)) ∧ Below w.heap.size w w' ∧ (ShP (.mk 3 t q op c s) → a = prtT k (.mk 3 t q op c s)) ∧ a.length ≤ 9 * tszP (.mk 3 t q op c s) := by
  have HEQ : Hid (∀ st, dolOf 3 t op c st = [36, 40] ++ t ++ [41]) := hide (fun st => by simp [dolOf])
  have HBW : Hid (Below w.heap.size w (w.alloc (.cells #[.int .i64 3, .string (BA t), .bool q, .int .i64 op, .bool c, v] 37))) := hide ((Below.refl _ w).alloc (Nat.le_refl _) _)
  have HB : Hid (Blk (w.alloc (.cells #[.int .i64 3, .string (BA t), .bool q, .int .i64 op, .bool c, v] 37)) w.heap.size 37 #[.int .i64 3, .string (BA t), .bool q, .int .i64 op, .bool c, v]) := hide (Blk.new w _ _)
  obtain ⟨w0, hw0⟩ : ∃ w0, w0 = w.alloc (.cells #[.int .i64 3, .string (BA t), .bool q, .int .i64 op, .bool c, v] 37) := ⟨_, rfl⟩
  rw [← hw0] at HBW HB
  have p2 : w0.cell? ⟨w.heap.size, 2, none⟩ = some (.bool q) := (unhide HB).cell 2 rfl
  have HW0 := hide hw0
  clear hw0
  go_enter Tryz.func36, Tryz.ntmps36
  go_upto_region 30 with fail
  rw [← unhide HW0]
  go_cut [97] from 84 to 97 (fun x wx => x = .bool mb ∧ wx = w0)
  case first =>
    cases q
    · have hmb : mb = false := (unhide HMB).symm.trans (by simp [mrkB])
      subst hmb
      go_wp2
      go_meet
      exact ⟨rfl, rfl⟩
    · rcases unhide HWY with ⟨rfl, rfl | rfl⟩ | ⟨rfl, rfl⟩ | ⟨rfl, rfl⟩ | ⟨rfl, rfl⟩
      all_goals
        first
        | (have hmb : mb = true := (unhide HMB).symm.trans (by decide)
           subst hmb
           go_wp2
           go_meet
           exact ⟨rfl, rfl⟩)
        | (have hmb : mb = false := (unhide HMB).symm.trans (by decide)
           subst hmb
           go_wp2
           go_meet
           exact ⟨rfl, rfl⟩)
  case rest =>
    obtain ⟨rfl, rfl⟩ := hcut
    cases mb
    all_goals
      go_wp2
      go_ret
      refine ⟨mrkd (mrkB k q) ([36, 40] ++ t ++ [41]), ret_str (by rw [unhide HMB]; apply ba_ext; simp [mrkd]), unhide HBW, fun hsh => ?_, ?_⟩
      · rw [prtT_is (by decide), unhide HEQ]
      · rw [tszP_eq]
        have h1 := mrkd_len (mrkB k q) ([36, 40] ++ t ++ [41])
        simp [Prt.text, Prt.sub] at h1 ⊢
        omega
set_option maxRecDepth 20000 in
set_option maxHeartbeats 8000000 in
theorem rpart_4 (t : List UInt8) (q : Bool) (op : Int) (c : Bool) (v : Value) (s : List Prt) (w : World) (k y : Nat) (mb : Bool) (HWY : Hid (wayR k y)) (HMB : Hid (mrkB k q = mb)) (ht : t.length ≤ 10000) :
    Calls Tryz.prog 36 #[.agg #[.int .i64 4, .string (BA t), .bool q, .int .i64 op, .bool c, v], .int .i64 (y : Int)] w fun e w' => ∃ a, e = .returned (.string (BA a)) ∧ Below w.heap.size w w' ∧ (ShP (.mk 4 t q op c s) → a = prtT k (.mk 4 t q op c s)) ∧ a.length ≤ 9 * tszP (.mk 4 t q op c s) := by
  have HEQ : Hid (∀ st, dolOf 4 t op c st = [36, 40, 40] ++ t ++ [41, 41]) := hide (fun st => by simp [dolOf])
  have HBW : Hid (Below w.heap.size w (w.alloc (.cells #[.int .i64 4, .string (BA t), .bool q, .int .i64 op, .bool c, v] 37))) := hide ((Below.refl _ w).alloc (Nat.le_refl _) _)
  have HB : Hid (Blk (w.alloc (.cells #[.int .i64 4, .string (BA t), .bool q, .int .i64 op, .bool c, v] 37)) w.heap.size 37 #[.int .i64 4, .string (BA t), .bool q, .int .i64 op, .bool c, v]) := hide (Blk.new w _ _)
  obtain ⟨w0, hw0⟩ : ∃ w0, w0 = w.alloc (.cells #[.int .i64 4, .string (BA t), .bool q, .int .i64 op, .bool c, v] 37) := ⟨_, rfl⟩
  rw [← hw0] at HBW HB
  have p2 : w0.cell? ⟨w.heap.size, 2, none⟩ = some (.bool q) := (unhide HB).cell 2 rfl
  have HW0 := hide hw0
  clear hw0
  go_enter Tryz.func36, Tryz.ntmps36
  go_upto_region 30 with fail
  rw [← unhide HW0]
  go_cut [97] from 84 to 97 (fun x wx => x = .bool mb ∧ wx = w0)
  case first =>
    cases q
    · have hmb : mb = false := (unhide HMB).symm.trans (by simp [mrkB])
      subst hmb
      go_wp2
      go_meet
      exact ⟨rfl, rfl⟩
    · rcases unhide HWY with ⟨rfl, rfl | rfl⟩ | ⟨rfl, rfl⟩ | ⟨rfl, rfl⟩ | ⟨rfl, rfl⟩
      all_goals
        first
        | (have hmb : mb = true := (unhide HMB).symm.trans (by decide)
           subst hmb
           go_wp2
           go_meet
           exact ⟨rfl, rfl⟩)
        | (have hmb : mb = false := (unhide HMB).symm.trans (by decide)
           subst hmb
           go_wp2
           go_meet
           exact ⟨rfl, rfl⟩)
  case rest =>
    obtain ⟨rfl, rfl⟩ := hcut
    cases mb
    all_goals
      go_wp2
      go_ret
      refine ⟨mrkd (mrkB k q) ([36, 40, 40] ++ t ++ [41, 41]), ret_str (by rw [unhide HMB]; apply ba_ext; simp [mrkd]), unhide HBW, fun hsh => ?_, ?_⟩
      · rw [prtT_is (by decide), unhide HEQ]
      · rw [tszP_eq]
        have h1 := mrkd_len (mrkB k q) ([36, 40, 40] ++ t ++ [41, 41])
        simp [Prt.text, Prt.sub] at h1 ⊢
        omega
set_option maxRecDepth 20000 in
set_option maxHeartbeats 8000000 in
theorem rpart_lo (t : List UInt8) (q : Bool) (op : Int) (c : Bool) (v : Value) (s : List Prt) (w : World) (k y : Nat) (hlo : op < 0) :
    Calls Tryz.prog 36 #[.agg #[.int .i64 2, .string (BA t), .bool q, .int .i64 op, .bool c, v], .int .i64 (y : Int)] w fun e w' => ∃ a, e = .returned (.string (BA a)) ∧ Below w.heap.size w w' ∧ (ShP (.mk 2 t q op c s) → a = prtT k (.mk 2 t q op c s)) ∧ a.length ≤ 9 * tszP (.mk 2 t q op c s) := by
  go_enter Tryz.func36, Tryz.ntmps36
  go_wp2
  go_ret
  refine ⟨[], rfl, (Below.refl _ w).alloc (Nat.le_refl _) _, fun hsh => ?_, by simp⟩
  have := shp_in hsh
  exact absurd this (by omega)
set_option maxRecDepth 20000 in
set_option maxHeartbeats 8000000 in
theorem rpart_hi (t : List UInt8) (q : Bool) (op : Int) (c : Bool) (v : Value) (s : List Prt) (w : World) (k y : Nat) (hhi : 9 < op) :
    Calls Tryz.prog 36 #[.agg #[.int .i64 2, .string (BA t), .bool q, .int .i64 op, .bool c, v], .int .i64 (y : Int)] w fun e w' => ∃ a, e = .returned (.string (BA a)) ∧ Below w.heap.size w w' ∧ (ShP (.mk 2 t q op c s) → a = prtT k (.mk 2 t q op c s)) ∧ a.length ≤ 9 * tszP (.mk 2 t q op c s) := by
  have hge : ¬ op < 0 := by omega
  go_enter Tryz.func36, Tryz.ntmps36
  go_wp2
  go_ret
  refine ⟨[], rfl, (Below.refl _ w).alloc (Nat.le_refl _) _, fun hsh => ?_, by simp⟩
  have := shp_in hsh
  exact absurd this (by omega)
set_option maxRecDepth 20000 in
set_option maxHeartbeats 8000000 in
theorem rpart_no (kd : Int) (t : List UInt8) (q : Bool) (op : Int) (c : Bool) (v : Value) (s : List Prt) (w : World) (k y : Nat) (h1 : kd ≠ 1) (h2 : kd ≠ 2) (h3 : kd ≠ 3) (h4 : kd ≠ 4) :
    Calls Tryz.prog 36 #[.agg #[.int .i64 kd, .string (BA t), .bool q, .int .i64 op, .bool c, v], .int .i64 (y : Int)] w fun e w' => ∃ a, e = .returned (.string (BA a)) ∧ Below w.heap.size w w' ∧ (ShP (.mk kd t q op c s) → a = prtT k (.mk kd t q op c s)) ∧ a.length ≤ 9 * tszP (.mk kd t q op c s) := by
  have b1 : (kd == 1) = false := by rw [beq_eq_false_iff_ne]; exact h1
  have b2 : (kd == 2) = false := by rw [beq_eq_false_iff_ne]; exact h2
  have b3 : (kd == 3) = false := by rw [beq_eq_false_iff_ne]; exact h3
  have b4 : (kd == 4) = false := by rw [beq_eq_false_iff_ne]; exact h4
  go_enter Tryz.func36, Tryz.ntmps36
  go_wp2
  go_ret
  refine ⟨[], rfl, (Below.refl _ w).alloc (Nat.le_refl _) _, fun hsh => ?_, by simp⟩
  have := shp_in hsh
  exact absurd this (by omega)
set_option maxRecDepth 20000 in
set_option maxHeartbeats 8000000 in
theorem rpart_1f (t : List UInt8) (op : Int) (c : Bool) (v : Value) (s : List Prt) (w : World) (k y : Nat) :
    Calls Tryz.prog 36 #[.agg #[.int .i64 1, .string (BA t), .bool false, .int .i64 op, .bool c, v], .int .i64 (y : Int)] w fun e w' => ∃ a, e = .returned (.string (BA a)) ∧ Below w.heap.size w w' ∧ (ShP (.mk 1 t false op c s) → a = prtT k (.mk 1 t false op c s)) ∧ a.length ≤ 9 * tszP (.mk 1 t false op c s) := by
  have HEQ : Hid (prtT k (.mk 1 t false op c s) = t) := hide (by simp [prtT, prtOf, Prt.kind, Prt.quote, Prt.text])
  go_enter Tryz.func36, Tryz.ntmps36
  go_wp2
  go_ret
  refine ⟨t, rfl, (Below.refl _ w).alloc (Nat.le_refl _) _, fun hsh => (unhide HEQ).symm, ?_⟩
  rw [tszP_eq]
  simp [Prt.text, Prt.sub]
  omega
set_option maxRecDepth 20000 in
set_option maxHeartbeats 8000000 in
theorem rpart_1t (t : List UInt8) (op : Int) (c : Bool) (v : Value) (s : List Prt) (w : World) (k y : Nat) (hw : wayR k y) (ht : t.length ≤ 10000) :
    Calls Tryz.prog 36 #[.agg #[.int .i64 1, .string (BA t), .bool true, .int .i64 op, .bool c, v], .int .i64 (y : Int)] w fun e w' => ∃ a, e = .returned (.string (BA a)) ∧ Below w.heap.size w w' ∧ (ShP (.mk 1 t true op c s) → a = prtT k (.mk 1 t true op c s)) ∧ a.length ≤ 9 * tszP (.mk 1 t true op c s) := by
  have HEQ : Hid (prtT k (.mk 1 t true op c s) = litT k t) := hide (by simp [prtT, prtOf, Prt.kind, Prt.quote, Prt.text])
  have HL := hide (fun W => rlitT_any k y hw t W ht)
  have HLL := hide (litT_len k t)
  clear hw ht
  go_enter Tryz.func36, Tryz.ntmps36
  go_wp2_with fail
  refine (unhide HL _).mono ?_
  rintro e w1 ⟨rfl, b1⟩
  have HB := hide (((Below.refl _ w).alloc (Nat.le_refl _) _).trans (b1.mono (by simp)))
  clear b1
  go_wp2
  go_ret
  refine ⟨litT k t, rfl, unhide HB, fun hsh => (unhide HEQ).symm, ?_⟩
  rw [tszP_eq]
  have := unhide HLL
  simp [Prt.text, Prt.sub]
  omega
end Go.Proofs.YtnamfjbfcbamjaaGreatDoor

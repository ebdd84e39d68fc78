/-
  The document's part: a Var without a Word.
-/
import Derived.Test.YtnamfjbfcbamjaaGreatDoorP19
import Derived.Deep.DeepCutAuto
import Derived.Deep.CutRange
namespace Go.Proofs.YtnamfjbfcbamjaaGreatDoor
open Go.RowKit
set_option maxRecDepth 20000 in
set_option maxHeartbeats 8000000 in
theorem rpart_0f (t : List UInt8) (q : Bool) (v : Value) (s : List Prt) (w : World) (k y : Nat) (mb : Bool) (HWY : Hid (wayR k y)) (HMB : Hid (mrkB k q = mb)) (ht : t.length ≤ 10000) :
    Calls Tryz.prog 36 #[.agg #[.int .i64 2, .string (BA t), .bool q, .int .i64 0, .bool false, v], .int .i64 (y : Int)] w fun e w' => ∃ a, e = .returned (.string (BA a)) ∧ Below w.heap.size w w' ∧ (ShP (.mk 2 t q 0 false s) → a = prtT k (.mk 2 t q 0 false s)) ∧ a.length ≤ 9 * tszP (.mk 2 t q 0 false s) := by
  have HEQ : Hid (∀ st, dolOf 2 t 0 false st = [36, 123] ++ t ++ opT 0 ++ [125]) := hide (fun st => by simp [dolOf])
  obtain ⟨n1, hn1⟩ : ∃ n1 : Nat, n1 = if 6 ≤ (0 : Int) then 4 else 3 := ⟨_, rfl⟩
  obtain ⟨nx, hnx⟩ : ∃ nx : Nat, nx = nxtR y q 0 := ⟨_, rfl⟩
  have HNX := hide hnx
  clear hnx
  have HSG : Hid (∀ W, Calls Tryz.prog 56 #[.int .i64 0] W fun e w' => e = .returned (.string (BA (opT 0))) ∧ Below W.heap.size W w') := hide (fun W => rsign_any 0 (by decide) (by decide) W)
  have hol := opT_len 0
  obtain ⟨nb, hnb⟩ : ∃ nb, nb = (!q && (y == 0 || y == 1)) := ⟨_, rfl⟩
  have HN2 : Hid (nx = if nb then 1 else n1) := hide (by rw [unhide HNX, hnb, hn1, nxtR_nb])
  have HN1 := hide hn1
  have HNB := hide hnb
  clear hn1 hnb
  go_enter Tryz.func36, Tryz.ntmps36
  go_wp2_with fail
  refine (unhide HSG _).mono ?_
  rintro e ws ⟨rfl, bs⟩
  have HB : Hid (Blk ws w.heap.size 37 #[.int .i64 2, .string (BA t), .bool q, .int .i64 0, .bool false, v]) := hide (Blk.below (Blk.new w _ _) bs (by simp))
  have HBW : Hid (Below w.heap.size w ws) := hide (((Below.refl _ w).alloc (Nat.le_refl _) _).trans (bs.mono (by simp)))
  clear bs
  have p0 : ws.cell? ⟨w.heap.size, 0, none⟩ = some (.int .i64 2) := (unhide HB).cell 0 rfl
  have p1 : ws.cell? ⟨w.heap.size, 1, none⟩ = some (.string (BA t)) := (unhide HB).cell 1 rfl
  have p2 : ws.cell? ⟨w.heap.size, 2, none⟩ = some (.bool q) := (unhide HB).cell 2 rfl
  have p3 : ws.cell? ⟨w.heap.size, 3, none⟩ = some (.int .i64 0) := (unhide HB).cell 3 rfl
  have p4 : ws.cell? ⟨w.heap.size, 4, none⟩ = some (.bool false) := (unhide HB).cell 4 rfl
  have p5 : ws.cell? ⟨w.heap.size, 5, none⟩ = some v := (unhide HB).cell 5 rfl
  go_upto_if 49 with fail
  go_cut [6] from 47 to 49 (fun x wx => x = .int .i64 (n1 : Int) ∧ wx = ws)
  case first =>
    have hn : n1 = 3 := (unhide HN1).trans (if_neg (by decide))
    subst hn
    go_wp2
    go_meet
    exact ⟨rfl, rfl⟩
  case rest =>
    obtain ⟨rfl, rfl⟩ := hcut
    go_upto_region 21 with fail
    go_cut [60] from 50 to 60 (fun x wx => x = .bool nb ∧ wx = wc)
    case first =>
      cases q
      · rcases unhide HWY with ⟨rfl, rfl | rfl⟩ | ⟨rfl, rfl⟩ | ⟨rfl, rfl⟩ | ⟨rfl, rfl⟩
        all_goals
          first
          | (have hx : nb = true := (unhide HNB).trans (by decide)
             subst hx
             go_wp2
             go_meet
             exact ⟨rfl, rfl⟩)
          | (have hx : nb = false := (unhide HNB).trans (by decide)
             subst hx
             go_wp2
             go_meet
             exact ⟨rfl, rfl⟩)
      · have hx : nb = false := (unhide HNB).trans (by simp)
        subst hx
        go_wp2
        go_meet
        exact ⟨rfl, rfl⟩
    case rest =>
      obtain ⟨rfl, rfl⟩ := hcut
      go_upto_if 60 with fail
      go_cut [6] from 60 to 60 (fun x wx => x = .int .i64 (nx : Int) ∧ wx = wc)
      case first =>
        cases nb
        · have hx : nx = n1 := (unhide HN2).trans rfl
          subst hx
          go_wp2
          go_meet
          exact ⟨rfl, rfl⟩
        · have hx : nx = 1 := (unhide HN2).trans rfl
          subst hx
          go_wp2
          go_meet
          exact ⟨rfl, rfl⟩
      case rest =>
        obtain ⟨rfl, rfl⟩ := hcut
        go_upto_region 30 with fail
        go_cut [97] from 84 to 97 (fun x wx => x = .bool mb ∧ wx = wc)
        case first =>
          cases q
          · have hmb : mb = false := (unhide HMB).symm.trans (by simp [mrkB])
            subst hmb
            go_wp2
            go_meet
            exact ⟨rfl, rfl⟩
          · rcases unhide HWY with ⟨rfl, rfl | rfl⟩ | ⟨rfl, rfl⟩ | ⟨rfl, rfl⟩ | ⟨rfl, rfl⟩
            all_goals
              first
              | (have hmb : mb = true := (unhide HMB).symm.trans (by decide)
                 subst hmb
                 go_wp2
                 go_meet
                 exact ⟨rfl, rfl⟩)
              | (have hmb : mb = false := (unhide HMB).symm.trans (by decide)
                 subst hmb
                 go_wp2
                 go_meet
                 exact ⟨rfl, rfl⟩)
        case rest =>
          obtain ⟨rfl, rfl⟩ := hcut
          cases mb
          all_goals
            go_wp2
            go_ret
            refine ⟨mrkd (mrkB k q) ([36, 123] ++ t ++ opT 0 ++ [125]), ret_str (by rw [unhide HMB]; apply ba_ext; simp [mrkd]), unhide HBW, fun hsh => ?_, ?_⟩
            · rw [prtT_is (by decide), unhide HEQ]
              skip
            · rw [tszP_eq]
              have h1 := mrkd_len (mrkB k q) ([36, 123] ++ t ++ opT 0 ++ [125])
              skip
              simp [Prt.text, Prt.sub] at h1 ⊢
              omega
set_option maxRecDepth 20000 in
set_option maxHeartbeats 8000000 in
theorem rpart_0t (t : List UInt8) (q : Bool) (v : Value) (s : List Prt) (w : World) (k y : Nat) (mb : Bool) (HWY : Hid (wayR k y)) (HMB : Hid (mrkB k q = mb)) (ht : t.length ≤ 10000) :
    Calls Tryz.prog 36 #[.agg #[.int .i64 2, .string (BA t), .bool q, .int .i64 0, .bool true, v], .int .i64 (y : Int)] w fun e w' => ∃ a, e = .returned (.string (BA a)) ∧ Below w.heap.size w w' ∧ (ShP (.mk 2 t q 0 true s) → a = prtT k (.mk 2 t q 0 true s)) ∧ a.length ≤ 9 * tszP (.mk 2 t q 0 true s) := by
  have HEQ : Hid (∀ st, dolOf 2 t 0 true st = [36, 123] ++ t ++ [58] ++ opT 0 ++ [125]) := hide (fun st => by simp [dolOf])
  obtain ⟨n1, hn1⟩ : ∃ n1 : Nat, n1 = if 6 ≤ (0 : Int) then 4 else 3 := ⟨_, rfl⟩
  obtain ⟨nx, hnx⟩ : ∃ nx : Nat, nx = nxtR y q 0 := ⟨_, rfl⟩
  have HNX := hide hnx
  clear hnx
  have HSG : Hid (∀ W, Calls Tryz.prog 56 #[.int .i64 0] W fun e w' => e = .returned (.string (BA (opT 0))) ∧ Below W.heap.size W w') := hide (fun W => rsign_any 0 (by decide) (by decide) W)
  have hol := opT_len 0
  obtain ⟨nb, hnb⟩ : ∃ nb, nb = (!q && (y == 0 || y == 1)) := ⟨_, rfl⟩
  have HN2 : Hid (nx = if nb then 1 else n1) := hide (by rw [unhide HNX, hnb, hn1, nxtR_nb])
  have HN1 := hide hn1
  have HNB := hide hnb
  clear hn1 hnb
  go_enter Tryz.func36, Tryz.ntmps36
  go_wp2_with fail
  refine (unhide HSG _).mono ?_
  rintro e ws ⟨rfl, bs⟩
  have HB : Hid (Blk ws w.heap.size 37 #[.int .i64 2, .string (BA t), .bool q, .int .i64 0, .bool true, v]) := hide (Blk.below (Blk.new w _ _) bs (by simp))
  have HBW : Hid (Below w.heap.size w ws) := hide (((Below.refl _ w).alloc (Nat.le_refl _) _).trans (bs.mono (by simp)))
  clear bs
  have p0 : ws.cell? ⟨w.heap.size, 0, none⟩ = some (.int .i64 2) := (unhide HB).cell 0 rfl
  have p1 : ws.cell? ⟨w.heap.size, 1, none⟩ = some (.string (BA t)) := (unhide HB).cell 1 rfl
  have p2 : ws.cell? ⟨w.heap.size, 2, none⟩ = some (.bool q) := (unhide HB).cell 2 rfl
  have p3 : ws.cell? ⟨w.heap.size, 3, none⟩ = some (.int .i64 0) := (unhide HB).cell 3 rfl
  have p4 : ws.cell? ⟨w.heap.size, 4, none⟩ = some (.bool true) := (unhide HB).cell 4 rfl
  have p5 : ws.cell? ⟨w.heap.size, 5, none⟩ = some v := (unhide HB).cell 5 rfl
  go_upto_if 49 with fail
  go_cut [6] from 47 to 49 (fun x wx => x = .int .i64 (n1 : Int) ∧ wx = ws)
  case first =>
    have hn : n1 = 3 := (unhide HN1).trans (if_neg (by decide))
    subst hn
    go_wp2
    go_meet
    exact ⟨rfl, rfl⟩
  case rest =>
    obtain ⟨rfl, rfl⟩ := hcut
    go_upto_region 21 with fail
    go_cut [60] from 50 to 60 (fun x wx => x = .bool nb ∧ wx = wc)
    case first =>
      cases q
      · rcases unhide HWY with ⟨rfl, rfl | rfl⟩ | ⟨rfl, rfl⟩ | ⟨rfl, rfl⟩ | ⟨rfl, rfl⟩
        all_goals
          first
          | (have hx : nb = true := (unhide HNB).trans (by decide)
             subst hx
             go_wp2
             go_meet
             exact ⟨rfl, rfl⟩)
          | (have hx : nb = false := (unhide HNB).trans (by decide)
             subst hx
             go_wp2
             go_meet
             exact ⟨rfl, rfl⟩)
      · have hx : nb = false := (unhide HNB).trans (by simp)
        subst hx
        go_wp2
        go_meet
        exact ⟨rfl, rfl⟩
    case rest =>
      obtain ⟨rfl, rfl⟩ := hcut
      go_upto_if 60 with fail
      go_cut [6] from 60 to 60 (fun x wx => x = .int .i64 (nx : Int) ∧ wx = wc)
      case first =>
        cases nb
        · have hx : nx = n1 := (unhide HN2).trans rfl
          subst hx
          go_wp2
          go_meet
          exact ⟨rfl, rfl⟩
        · have hx : nx = 1 := (unhide HN2).trans rfl
          subst hx
          go_wp2
          go_meet
          exact ⟨rfl, rfl⟩
      case rest =>
        obtain ⟨rfl, rfl⟩ := hcut
        go_upto_region 30 with fail
        go_cut [97] from 84 to 97 (fun x wx => x = .bool mb ∧ wx = wc)
        case first =>
          cases q
          · have hmb : mb = false := (unhide HMB).symm.trans (by simp [mrkB])
            subst hmb
            go_wp2
            go_meet
            exact ⟨rfl, rfl⟩
          · rcases unhide HWY with ⟨rfl, rfl | rfl⟩ | ⟨rfl, rfl⟩ | ⟨rfl, rfl⟩ | ⟨rfl, rfl⟩
            all_goals
              first
              | (have hmb : mb = true := (unhide HMB).symm.trans (by decide)
                 subst hmb
                 go_wp2
                 go_meet
                 exact ⟨rfl, rfl⟩)
              | (have hmb : mb = false := (unhide HMB).symm.trans (by decide)
                 subst hmb
                 go_wp2
                 go_meet
                 exact ⟨rfl, rfl⟩)
        case rest =>
          obtain ⟨rfl, rfl⟩ := hcut
          cases mb
          all_goals
            go_wp2
            go_ret
            refine ⟨mrkd (mrkB k q) ([36, 123] ++ t ++ [58] ++ opT 0 ++ [125]), ret_str (by rw [unhide HMB]; apply ba_ext; simp [mrkd]), unhide HBW, fun hsh => ?_, ?_⟩
            · rw [prtT_is (by decide), unhide HEQ]
              skip
            · rw [tszP_eq]
              have h1 := mrkd_len (mrkB k q) ([36, 123] ++ t ++ [58] ++ opT 0 ++ [125])
              skip
              simp [Prt.text, Prt.sub] at h1 ⊢
              omega
set_option maxRecDepth 20000 in
set_option maxHeartbeats 8000000 in
theorem rpart_o1f (t : List UInt8) (q : Bool) (v : Value) (s : List Prt) (w : World) (k y : Nat) (mb : Bool) (HWY : Hid (wayR k y)) (HMB : Hid (mrkB k q = mb)) (ht : t.length ≤ 10000) :
    Calls Tryz.prog 36 #[.agg #[.int .i64 2, .string (BA t), .bool q, .int .i64 1, .bool false, v], .int .i64 (y : Int)] w fun e w' => ∃ a, e = .returned (.string (BA a)) ∧ Below w.heap.size w w' ∧ (ShP (.mk 2 t q 1 false s) → a = prtT k (.mk 2 t q 1 false s)) ∧ a.length ≤ 9 * tszP (.mk 2 t q 1 false s) := by
  have HEQ : Hid (∀ st, dolOf 2 t 1 false st = [36, 123] ++ [35] ++ t ++ opT 1 ++ [125]) := hide (fun st => by simp [dolOf])
  obtain ⟨n1, hn1⟩ : ∃ n1 : Nat, n1 = if 6 ≤ (1 : Int) then 4 else 3 := ⟨_, rfl⟩
  obtain ⟨nx, hnx⟩ : ∃ nx : Nat, nx = nxtR y q 1 := ⟨_, rfl⟩
  have HNX := hide hnx
  clear hnx
  have HSG : Hid (∀ W, Calls Tryz.prog 56 #[.int .i64 1] W fun e w' => e = .returned (.string (BA (opT 1))) ∧ Below W.heap.size W w') := hide (fun W => rsign_any 1 (by decide) (by decide) W)
  have hol := opT_len 1
  obtain ⟨nb, hnb⟩ : ∃ nb, nb = (!q && (y == 0 || y == 1)) := ⟨_, rfl⟩
  have HN2 : Hid (nx = if nb then 1 else n1) := hide (by rw [unhide HNX, hnb, hn1, nxtR_nb])
  have HN1 := hide hn1
  have HNB := hide hnb
  clear hn1 hnb
  go_enter Tryz.func36, Tryz.ntmps36
  go_wp2_with fail
  refine (unhide HSG _).mono ?_
  rintro e ws ⟨rfl, bs⟩
  have HB : Hid (Blk ws w.heap.size 37 #[.int .i64 2, .string (BA t), .bool q, .int .i64 1, .bool false, v]) := hide (Blk.below (Blk.new w _ _) bs (by simp))
  have HBW : Hid (Below w.heap.size w ws) := hide (((Below.refl _ w).alloc (Nat.le_refl _) _).trans (bs.mono (by simp)))
  clear bs
  have p0 : ws.cell? ⟨w.heap.size, 0, none⟩ = some (.int .i64 2) := (unhide HB).cell 0 rfl
  have p1 : ws.cell? ⟨w.heap.size, 1, none⟩ = some (.string (BA t)) := (unhide HB).cell 1 rfl
  have p2 : ws.cell? ⟨w.heap.size, 2, none⟩ = some (.bool q) := (unhide HB).cell 2 rfl
  have p3 : ws.cell? ⟨w.heap.size, 3, none⟩ = some (.int .i64 1) := (unhide HB).cell 3 rfl
  have p4 : ws.cell? ⟨w.heap.size, 4, none⟩ = some (.bool false) := (unhide HB).cell 4 rfl
  have p5 : ws.cell? ⟨w.heap.size, 5, none⟩ = some v := (unhide HB).cell 5 rfl
  go_upto_if 49 with fail
  go_cut [6] from 47 to 49 (fun x wx => x = .int .i64 (n1 : Int) ∧ wx = ws)
  case first =>
    have hn : n1 = 3 := (unhide HN1).trans (if_neg (by decide))
    subst hn
    go_wp2
    go_meet
    exact ⟨rfl, rfl⟩
  case rest =>
    obtain ⟨rfl, rfl⟩ := hcut
    go_upto_region 21 with fail
    go_cut [60] from 50 to 60 (fun x wx => x = .bool nb ∧ wx = wc)
    case first =>
      cases q
      · rcases unhide HWY with ⟨rfl, rfl | rfl⟩ | ⟨rfl, rfl⟩ | ⟨rfl, rfl⟩ | ⟨rfl, rfl⟩
        all_goals
          first
          | (have hx : nb = true := (unhide HNB).trans (by decide)
             subst hx
             go_wp2
             go_meet
             exact ⟨rfl, rfl⟩)
          | (have hx : nb = false := (unhide HNB).trans (by decide)
             subst hx
             go_wp2
             go_meet
             exact ⟨rfl, rfl⟩)
      · have hx : nb = false := (unhide HNB).trans (by simp)
        subst hx
        go_wp2
        go_meet
        exact ⟨rfl, rfl⟩
    case rest =>
      obtain ⟨rfl, rfl⟩ := hcut
      go_upto_if 60 with fail
      go_cut [6] from 60 to 60 (fun x wx => x = .int .i64 (nx : Int) ∧ wx = wc)
      case first =>
        cases nb
        · have hx : nx = n1 := (unhide HN2).trans rfl
          subst hx
          go_wp2
          go_meet
          exact ⟨rfl, rfl⟩
        · have hx : nx = 1 := (unhide HN2).trans rfl
          subst hx
          go_wp2
          go_meet
          exact ⟨rfl, rfl⟩
      case rest =>
        obtain ⟨rfl, rfl⟩ := hcut
        go_upto_region 30 with fail
        go_cut [97] from 84 to 97 (fun x wx => x = .bool mb ∧ wx = wc)
        case first =>
          cases q
          · have hmb : mb = false := (unhide HMB).symm.trans (by simp [mrkB])
            subst hmb
            go_wp2
            go_meet
            exact ⟨rfl, rfl⟩
          · rcases unhide HWY with ⟨rfl, rfl | rfl⟩ | ⟨rfl, rfl⟩ | ⟨rfl, rfl⟩ | ⟨rfl, rfl⟩
            all_goals
              first
              | (have hmb : mb = true := (unhide HMB).symm.trans (by decide)
                 subst hmb
                 go_wp2
                 go_meet
                 exact ⟨rfl, rfl⟩)
              | (have hmb : mb = false := (unhide HMB).symm.trans (by decide)
                 subst hmb
                 go_wp2
                 go_meet
                 exact ⟨rfl, rfl⟩)
        case rest =>
          obtain ⟨rfl, rfl⟩ := hcut
          cases mb
          all_goals
            go_wp2
            go_ret
            refine ⟨mrkd (mrkB k q) ([36, 123] ++ [35] ++ t ++ opT 1 ++ [125]), ret_str (by rw [unhide HMB]; apply ba_ext; simp [mrkd]), unhide HBW, fun hsh => ?_, ?_⟩
            · rw [prtT_is (by decide), unhide HEQ]
              skip
            · rw [tszP_eq]
              have h1 := mrkd_len (mrkB k q) ([36, 123] ++ [35] ++ t ++ opT 1 ++ [125])
              skip
              simp [Prt.text, Prt.sub] at h1 ⊢
              omega
set_option maxRecDepth 20000 in
set_option maxHeartbeats 8000000 in
theorem rpart_o1t (t : List UInt8) (q : Bool) (v : Value) (s : List Prt) (w : World) (k y : Nat) (mb : Bool) (HWY : Hid (wayR k y)) (HMB : Hid (mrkB k q = mb)) (ht : t.length ≤ 10000) :
    Calls Tryz.prog 36 #[.agg #[.int .i64 2, .string (BA t), .bool q, .int .i64 1, .bool true, v], .int .i64 (y : Int)] w fun e w' => ∃ a, e = .returned (.string (BA a)) ∧ Below w.heap.size w w' ∧ (ShP (.mk 2 t q 1 true s) → a = prtT k (.mk 2 t q 1 true s)) ∧ a.length ≤ 9 * tszP (.mk 2 t q 1 true s) := by
  have HEQ : Hid (∀ st, dolOf 2 t 1 true st = [36, 123] ++ [35] ++ t ++ [58] ++ opT 1 ++ [125]) := hide (fun st => by simp [dolOf])
  obtain ⟨n1, hn1⟩ : ∃ n1 : Nat, n1 = if 6 ≤ (1 : Int) then 4 else 3 := ⟨_, rfl⟩
  obtain ⟨nx, hnx⟩ : ∃ nx : Nat, nx = nxtR y q 1 := ⟨_, rfl⟩
  have HNX := hide hnx
  clear hnx
  have HSG : Hid (∀ W, Calls Tryz.prog 56 #[.int .i64 1] W fun e w' => e = .returned (.string (BA (opT 1))) ∧ Below W.heap.size W w') := hide (fun W => rsign_any 1 (by decide) (by decide) W)
  have hol := opT_len 1
  obtain ⟨nb, hnb⟩ : ∃ nb, nb = (!q && (y == 0 || y == 1)) := ⟨_, rfl⟩
  have HN2 : Hid (nx = if nb then 1 else n1) := hide (by rw [unhide HNX, hnb, hn1, nxtR_nb])
  have HN1 := hide hn1
  have HNB := hide hnb
  clear hn1 hnb
  go_enter Tryz.func36, Tryz.ntmps36
  go_wp2_with fail
  refine (unhide HSG _).mono ?_
  rintro e ws ⟨rfl, bs⟩
  have HB : Hid (Blk ws w.heap.size 37 #[.int .i64 2, .string (BA t), .bool q, .int .i64 1, .bool true, v]) := hide (Blk.below (Blk.new w _ _) bs (by simp))
  have HBW : Hid (Below w.heap.size w ws) := hide (((Below.refl _ w).alloc (Nat.le_refl _) _).trans (bs.mono (by simp)))
  clear bs
  have p0 : ws.cell? ⟨w.heap.size, 0, none⟩ = some (.int .i64 2) := (unhide HB).cell 0 rfl
  have p1 : ws.cell? ⟨w.heap.size, 1, none⟩ = some (.string (BA t)) := (unhide HB).cell 1 rfl
  have p2 : ws.cell? ⟨w.heap.size, 2, none⟩ = some (.bool q) := (unhide HB).cell 2 rfl
  have p3 : ws.cell? ⟨w.heap.size, 3, none⟩ = some (.int .i64 1) := (unhide HB).cell 3 rfl
  have p4 : ws.cell? ⟨w.heap.size, 4, none⟩ = some (.bool true) := (unhide HB).cell 4 rfl
  have p5 : ws.cell? ⟨w.heap.size, 5, none⟩ = some v := (unhide HB).cell 5 rfl
  go_upto_if 49 with fail
  go_cut [6] from 47 to 49 (fun x wx => x = .int .i64 (n1 : Int) ∧ wx = ws)
  case first =>
    have hn : n1 = 3 := (unhide HN1).trans (if_neg (by decide))
    subst hn
    go_wp2
    go_meet
    exact ⟨rfl, rfl⟩
  case rest =>
    obtain ⟨rfl, rfl⟩ := hcut
    go_upto_region 21 with fail
    go_cut [60] from 50 to 60 (fun x wx => x = .bool nb ∧ wx = wc)
    case first =>
      cases q
      · rcases unhide HWY with ⟨rfl, rfl | rfl⟩ | ⟨rfl, rfl⟩ | ⟨rfl, rfl⟩ | ⟨rfl, rfl⟩
        all_goals
          first
          | (have hx : nb = true := (unhide HNB).trans (by decide)
             subst hx
             go_wp2
             go_meet
             exact ⟨rfl, rfl⟩)
          | (have hx : nb = false := (unhide HNB).trans (by decide)
             subst hx
             go_wp2
             go_meet
             exact ⟨rfl, rfl⟩)
      · have hx : nb = false := (unhide HNB).trans (by simp)
        subst hx
        go_wp2
        go_meet
        exact ⟨rfl, rfl⟩
    case rest =>
      obtain ⟨rfl, rfl⟩ := hcut
      go_upto_if 60 with fail
      go_cut [6] from 60 to 60 (fun x wx => x = .int .i64 (nx : Int) ∧ wx = wc)
      case first =>
        cases nb
        · have hx : nx = n1 := (unhide HN2).trans rfl
          subst hx
          go_wp2
          go_meet
          exact ⟨rfl, rfl⟩
        · have hx : nx = 1 := (unhide HN2).trans rfl
          subst hx
          go_wp2
          go_meet
          exact ⟨rfl, rfl⟩
      case rest =>
        obtain ⟨rfl, rfl⟩ := hcut
        go_upto_region 30 with fail
        go_cut [97] from 84 to 97 (fun x wx => x = .bool mb ∧ wx = wc)
        case first =>
          cases q
          · have hmb : mb = false := (unhide HMB).symm.trans (by simp [mrkB])
            subst hmb
            go_wp2
            go_meet
            exact ⟨rfl, rfl⟩
          · rcases unhide HWY with ⟨rfl, rfl | rfl⟩ | ⟨rfl, rfl⟩ | ⟨rfl, rfl⟩ | ⟨rfl, rfl⟩
            all_goals
              first
              | (have hmb : mb = true := (unhide HMB).symm.trans (by decide)
                 subst hmb
                 go_wp2
                 go_meet
                 exact ⟨rfl, rfl⟩)
              | (have hmb : mb = false := (unhide HMB).symm.trans (by decide)
                 subst hmb
                 go_wp2
                 go_meet
                 exact ⟨rfl, rfl⟩)
        case rest =>
          obtain ⟨rfl, rfl⟩ := hcut
          cases mb
          all_goals
            go_wp2
            go_ret
            refine ⟨mrkd (mrkB k q) ([36, 123] ++ [35] ++ t ++ [58] ++ opT 1 ++ [125]), ret_str (by rw [unhide HMB]; apply ba_ext; simp [mrkd]), unhide HBW, fun hsh => ?_, ?_⟩
            · rw [prtT_is (by decide), unhide HEQ]
              skip
            · rw [tszP_eq]
              have h1 := mrkd_len (mrkB k q) ([36, 123] ++ [35] ++ t ++ [58] ++ opT 1 ++ [125])
              skip
              simp [Prt.text, Prt.sub] at h1 ⊢
              omega
end Go.Proofs.YtnamfjbfcbamjaaGreatDoor

/-
  The document's Same.
  The document's Print and PrintHere of any word.
-/
import Derived.Test.YtnamfjbfcbamjaaGreatDoorP17
import Derived.Test.YtnamfjbfcbamjaaGreatDoorP27
import Derived.Test.YtnamfjbfcbamjaaGreatDoorP37
namespace Go.Proofs.YtnamfjbfcbamjaaGreatDoor
open Go.RowKit
set_option maxRecDepth 20000 in
set_option maxHeartbeats 4000000 in
theorem rsame_all : ∀ N : Nat, SameN 10 N
  | 0 => fun a b x y w A B hN => absurd hN (by cases a <;> simp)
  | N + 1 => by
    intro a b x y w A B hN hx hy hA hB
    have HS := hide (rsame_all N)
    obtain ⟨ada, capa, rfl, hla⟩ := hx.len
    obtain ⟨adb, capb, rfl, hlb⟩ := hy.len
    by_cases hab : a.length = b.length
    · have HX := hide hx
      have HY := hide hy
      have HAB := hide hab
      clear hx hy
      rw [← hab]
      have HSN := hide hN
      clear hab hlb hN
      go_enter Tryz.func10, Tryz.ntmps10
      go_wp2
      go_loopw [5] (fun i wr => ∃ k : Nat, k ≤ a.length ∧ i = .int .i64 k ∧ Hid (sameW (a.drop k) (b.drop k) = sameW a b) ∧ Hid (Below w.heap.size w wr)) (fun i _ => a.length - (intOf i).toNat)
      case atStart => exact ⟨0, Nat.zero_le _, rfl, hide rfl, hide (Below.refl _ _)⟩
      case round =>
        obtain ⟨k, hk, rfl, HE, HB⟩ := hrel
        by_cases hlt : k < a.length
        · obtain ⟨p, hp⟩ := get_ex hlt
          obtain ⟨q, hq⟩ := get_ex (l := b) (k := k) (by have := unhide HAB; omega)
          obtain ⟨ga, oa, va, ea, hga, a0, a1, a2, a3, a4, a5, hsa⟩ := ((unhide HX).below (unhide HB) hA).part hp
          have hy' := (unhide HY).below (unhide HB) hB
          rw [← unhide HAB] at hy'
          obtain ⟨gb, ob, vb, eb, hgb, b0, b1, b2, b3, b4, b5, hsb⟩ := hy'.part hq
          obtain ⟨ada', capa', rfl, _⟩ := hsa.len
          obtain ⟨adb', capb', rfl, _⟩ := hsb.len
          have hga' := Nat.lt_of_lt_of_le (hA _ hga) (unhide HB).size
          have hgb' := Nat.lt_of_lt_of_le (hB _ hgb) (unhide HB).size
          have HSP : Hid (∀ w1, Below wr.heap.size wr w1 → Calls Tryz.prog 10 #[.slice ada' p.sub.length capa', .slice adb' q.sub.length capb'] w1 fun e w' => e = .returned (.bool (sameW p.sub q.sub)) ∧ Below w1.heap.size w1 w') := hide (fun w1 h1 =>
            unhide HS p.sub q.sub _ _ w1 A B (by have := sub_lt p a (mem_of hp); have := unhide HSN; omega) (hsa.below h1 (fun k h => Nat.lt_of_lt_of_le (hA k h) (unhide HB).size)) (hsb.below h1 (fun k h => Nat.lt_of_lt_of_le (hB k h) (unhide HB).size))
              (fun k h => Nat.lt_of_lt_of_le (hA k h) (Nat.le_trans (unhide HB).size h1.size)) (fun k h => Nat.lt_of_lt_of_le (hB k h) (Nat.le_trans (unhide HB).size h1.size)))
          have HBB : Hid (∀ x y, Below wr.heap.size wr ((wr.alloc x).alloc y)) := hide (fun x y => ((Below.refl _ wr).alloc (Nat.le_refl _) _).alloc (by simp) _)
          have HST : Hid (sameW (a.drop k) (b.drop k) = ((headP p q && sameW p.sub q.sub) && sameW (a.drop (k + 1)) (b.drop (k + 1)))) := hide ((drop_same hp hq).trans (by rw [sameP_head]))
          clear hp hq hsa hsb hy' hga hgb
          subst ea eb
          rcases Bool.eq_false_or_eq_true (sameW p.sub q.sub) with hpq | hpq
          all_goals
            rw [hpq] at HSP HST
            clear hpq
            go_wp2_with (go_at_call 10; refine (unhide HSP _ (unhide HBB _ _)).mono ?_; rintro e w1 ⟨rfl, b1⟩)
            all_goals
              try rw [BA_toList, BA_toList] at *
              first
              | (go_ret
                 refine ⟨ret_bool (by rw [← unhide HE, unhide HST]; simp [headP, *]), ?_⟩
                 first
                 | exact (unhide HB).trans ((unhide HBB _ _).mono (unhide HB).size)
                 | exact (unhide HB).trans (((unhide HBB _ _).trans (b1.mono (by simp; omega))).mono (unhide HB).size))
              | (go_roundw
                 case rel => exact ⟨k + 1, by omega, by go_num, hide (by rw [← unhide HE, unhide HST]; simp [headP, *]), hide ((unhide HB).trans (((unhide HBB _ _).trans (b1.mono (by simp; omega))).mono (unhide HB).size))⟩
                 case measure => simp [intOf]; omega)
        · go_wp2
          go_ret
          exact ⟨ret_bool (by rw [← unhide HE, List.drop_eq_nil_of_le (by omega), List.drop_eq_nil_of_le (by have := unhide HAB; omega), sameW_nil]), unhide HB⟩
    · have hne : ((a.length : Int) == (b.length : Int)) = false := by rw [beq_eq_false_iff_ne]; omega
      go_enter Tryz.func10, Tryz.ntmps10
      go_wp2
      go_ret
      exact ⟨ret_bool (sameW_len hab).symm, Below.refl _ _⟩
theorem rsame_any (a b : List Prt) (x y : Value) (w : World) (A B : Nat → Prop) (hx : WAt w A x a) (hy : WAt w B y b) (hA : ∀ k, A k → k < w.heap.size) (hB : ∀ k, B k → k < w.heap.size) :
    Calls Tryz.prog 10 #[x, y] w fun e w' => e = .returned (.bool (sameW a b)) ∧ Below w.heap.size w w' := rsame_all _ a b x y w A B (Nat.le_refl _) hx hy hA hB
end Go.Proofs.YtnamfjbfcbamjaaGreatDoor
namespace Go.Proofs.YtnamfjbfcbamjaaGreatDoor
open Go.RowKit
theorem prn_sh {y : Nat} {ps : List Prt} {a b : List UInt8} (h : ShA ps → a = b) : prnL y ps a = prnL y ps b := by
  by_cases hs : ShA ps
  · rw [h hs]
  · have hno : ∀ t, prnL y ps t = ([], 1) := by
      intro t
      unfold prnL
      cases hr : wrdL true y t with
      | err x => rfl
      | ok l =>
        show (if sameW l ps then (t, 0) else ([], 1)) = ([], 1)
        cases hsm : sameW l ps
        · rfl
        · exfalso
          have h1 := sameW_eq l ps hsm
          have h2 := sh_wrd true y t
          rw [hr] at h2
          exact hs (h1 ▸ h2.1)
    rw [hno, hno]
set_option maxRecDepth 20000 in
set_option maxHeartbeats 8000000 in
theorem rprint_0 (ps : List Prt) (v : Value) (A : Nat → Prop) (w : World) (hv : WAt w A v ps) (hA : ∀ j, A j → j < w.heap.size) (hz : tszL ps ≤ 1000) :
    Calls Tryz.prog 13 #[v] w fun e w' => e = .returned (.tuple #[.string (BA (prnL 0 ps (wrdT 0 ps)).1), .int .i64 (prnL 0 ps (wrdT 0 ps)).2]) ∧ Below w.heap.size w w' := by
  obtain ⟨va, vc, rfl, hlen⟩ := hv.len
  have HWR : Hid (Calls Tryz.prog 22 #[.slice va ps.length vc, .int .i64 0] w fun e w' => ∃ s, e = .returned (.string (BA s)) ∧ Below w.heap.size w w' ∧ (ShA ps → s = wrdT 0 ps) ∧ s.length ≤ 9 * tszL ps) := hide (rwritten_all _ ps _ A w 0 0 (by simp [wayR]) (Nat.le_refl _) hv hA hz)
  have HV := hide hv
  have HA := hide hA
  have HZ := hide hz
  clear hv hA hz
  go_enter Tryz.func13, Tryz.ntmps13
  go_wp2_with fail
  refine (unhide HWR).mono ?_
  rintro e w3 ⟨out, rfl, hbl, hsh, hol⟩
  have HB3 := hide hbl
  have HPR : Hid (prnL 0 ps (wrdT 0 ps) = prnL 0 ps out) := hide (prn_sh hsh).symm
  have HPA := hide (rparse_any out w3 (by have := unhide HZ; omega))
  clear hsh hbl hol HWR
  cases hr : wrdL true 0 out with
  | err x =>
    have hx : x ≠ 0 := wrd_nz true 0 out x hr
    have hx1 : (x != 0) = true := by simpa using hx
    rw [hr] at HPA
    have HPR2 : Hid (prnL 0 ps (wrdT 0 ps) = ([], 1)) := hide (by rw [unhide HPR]; unfold prnL; rw [hr])
    clear hr HPR hx
    go_wp2_with fail
    refine (unhide HPA).mono ?_
    rintro e w4 ⟨v4, rfl, b4, hv4⟩
    have HB4 := hide ((unhide HB3).trans (b4.mono (unhide HB3).size))
    have hx2 : ((Rd.err x).errno != 0) = true := hx1
    clear b4 hv4
    go_wp2
    go_ret2
    rw [unhide HPR2]
    exact ⟨rfl, unhide HB4⟩
  | ok l =>
    rw [hr] at HPA
    have HPR2 : Hid (prnL 0 ps (wrdT 0 ps) = if sameW l ps then (out, 0) else ([], 1)) := hide (by rw [unhide HPR]; unfold prnL; rw [hr])
    clear hr HPR
    go_wp2_with fail
    refine (unhide HPA).mono ?_
    rintro e w4 ⟨v4, rfl, b4, hv4⟩
    have HB4 := hide ((unhide HB3).trans (b4.mono (unhide HB3).size))
    have HSM : Hid (Calls Tryz.prog 10 #[v4, .slice va ps.length vc] w4 fun e w' => e = .returned (.bool (sameW l ps)) ∧ Below w4.heap.size w4 w') := hide (rsame_any l ps v4 (.slice va ps.length vc) w4 _ A hv4 ((unhide HV).below (unhide HB4) (unhide HA)) (fun k h => h.2) (fun k e => by have := unhide HA k e; have := (unhide HB4).size; omega))
    have hx2 : ((Rd.ok l).errno != 0) = false := rfl
    clear b4 hv4
    obtain ⟨sm, hsm⟩ : ∃ sm, sameW l ps = sm := ⟨_, rfl⟩
    rw [hsm] at HSM HPR2
    clear hsm
    cases sm
    · go_wp2_with fail
      refine (unhide HSM).mono ?_
      rintro e w5 ⟨rfl, b5⟩
      have HB5 := hide ((unhide HB4).trans (b5.mono (unhide HB4).size))
      clear b5
      go_wp2
      go_ret2
      rw [unhide HPR2]
      exact ⟨rfl, unhide HB5⟩
    · go_wp2_with fail
      refine (unhide HSM).mono ?_
      rintro e w5 ⟨rfl, b5⟩
      have HB5 := hide ((unhide HB4).trans (b5.mono (unhide HB4).size))
      clear b5
      go_wp2
      go_ret2
      rw [unhide HPR2]
      exact ⟨rfl, unhide HB5⟩
set_option maxRecDepth 20000 in
set_option maxHeartbeats 8000000 in
theorem rprint_3 (ps : List Prt) (v : Value) (A : Nat → Prop) (w : World) (hv : WAt w A v ps) (hA : ∀ j, A j → j < w.heap.size) (hz : tszL ps ≤ 1000) :
    Calls Tryz.prog 15 #[v] w fun e w' => e = .returned (.tuple #[.string (BA (prnL 5 ps (wrdT 3 ps)).1), .int .i64 (prnL 5 ps (wrdT 3 ps)).2]) ∧ Below w.heap.size w w' := by
  obtain ⟨va, vc, rfl, hlen⟩ := hv.len
  have HWR : Hid (Calls Tryz.prog 22 #[.slice va ps.length vc, .int .i64 5] w fun e w' => ∃ s, e = .returned (.string (BA s)) ∧ Below w.heap.size w w' ∧ (ShA ps → s = wrdT 3 ps) ∧ s.length ≤ 9 * tszL ps) := hide (rwritten_all _ ps _ A w 3 5 (by simp [wayR]) (Nat.le_refl _) hv hA hz)
  have HV := hide hv
  have HA := hide hA
  have HZ := hide hz
  clear hv hA hz
  go_enter Tryz.func15, Tryz.ntmps15
  go_wp2_with fail
  refine (unhide HWR).mono ?_
  rintro e w3 ⟨out, rfl, hbl, hsh, hol⟩
  have HB3 := hide hbl
  have HPR : Hid (prnL 5 ps (wrdT 3 ps) = prnL 5 ps out) := hide (prn_sh hsh).symm
  have HPA := hide (rhere_any out w3 (by have := unhide HZ; omega))
  clear hsh hbl hol HWR
  cases hr : wrdL true 5 out with
  | err x =>
    have hx : x ≠ 0 := wrd_nz true 5 out x hr
    have hx1 : (x != 0) = true := by simpa using hx
    rw [hr] at HPA
    have HPR2 : Hid (prnL 5 ps (wrdT 3 ps) = ([], 1)) := hide (by rw [unhide HPR]; unfold prnL; rw [hr])
    clear hr HPR hx
    go_wp2_with fail
    refine (unhide HPA).mono ?_
    rintro e w4 ⟨v4, rfl, b4, hv4⟩
    have HB4 := hide ((unhide HB3).trans (b4.mono (unhide HB3).size))
    have hx2 : ((Rd.err x).errno != 0) = true := hx1
    clear b4 hv4
    go_wp2
    go_ret2
    rw [unhide HPR2]
    exact ⟨rfl, unhide HB4⟩
  | ok l =>
    rw [hr] at HPA
    have HPR2 : Hid (prnL 5 ps (wrdT 3 ps) = if sameW l ps then (out, 0) else ([], 1)) := hide (by rw [unhide HPR]; unfold prnL; rw [hr])
    clear hr HPR
    go_wp2_with fail
    refine (unhide HPA).mono ?_
    rintro e w4 ⟨v4, rfl, b4, hv4⟩
    have HB4 := hide ((unhide HB3).trans (b4.mono (unhide HB3).size))
    have HSM : Hid (Calls Tryz.prog 10 #[v4, .slice va ps.length vc] w4 fun e w' => e = .returned (.bool (sameW l ps)) ∧ Below w4.heap.size w4 w') := hide (rsame_any l ps v4 (.slice va ps.length vc) w4 _ A hv4 ((unhide HV).below (unhide HB4) (unhide HA)) (fun k h => h.2) (fun k e => by have := unhide HA k e; have := (unhide HB4).size; omega))
    have hx2 : ((Rd.ok l).errno != 0) = false := rfl
    clear b4 hv4
    obtain ⟨sm, hsm⟩ : ∃ sm, sameW l ps = sm := ⟨_, rfl⟩
    rw [hsm] at HSM HPR2
    clear hsm
    cases sm
    · go_wp2_with fail
      refine (unhide HSM).mono ?_
      rintro e w5 ⟨rfl, b5⟩
      have HB5 := hide ((unhide HB4).trans (b5.mono (unhide HB4).size))
      clear b5
      go_wp2
      go_ret2
      rw [unhide HPR2]
      exact ⟨rfl, unhide HB5⟩
    · go_wp2_with fail
      refine (unhide HSM).mono ?_
      rintro e w5 ⟨rfl, b5⟩
      have HB5 := hide ((unhide HB4).trans (b5.mono (unhide HB4).size))
      clear b5
      go_wp2
      go_ret2
      rw [unhide HPR2]
      exact ⟨rfl, unhide HB5⟩
end Go.Proofs.YtnamfjbfcbamjaaGreatDoor

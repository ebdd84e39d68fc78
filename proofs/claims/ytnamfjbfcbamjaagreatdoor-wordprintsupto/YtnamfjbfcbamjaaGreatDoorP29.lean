/-
  The document's reader: all, named, Param.
  The document's reader: pair.
-/
import Derived.Test.YtnamfjbfcbamjaaGreatDoorP28
import Derived.Test.YtnamfjbfcbamjaaGreatDoorP12
import Derived.Test.YtnamfjbfcbamjaaGreatDoorP13
namespace Go.Proofs.YtnamfjbfcbamjaaGreatDoor
open Go.RowKit
set_option maxRecDepth 20000 in
set_option maxHeartbeats 1000000 in
theorem rallw_any (k : Nat) (w : World) (hk : k < 6) : Calls Tryz.prog 29 #[.int .i64 (k : Int)] w fun e w' => e = .returned (.bool (allW k)) ∧ w' = w := by
  match k, hk with
  | 0, _ | 1, _ | 2, _ | 3, _ | 4, _ | 5, _ =>
    go_enter Tryz.func29, Tryz.ntmps29
    go_wp2
    go_ret
    exact ⟨rfl, rfl⟩
theorem byte_is (c : UInt8) (n : Nat) (hn : n < 256) : (c == UInt8.ofNat n) = ((c.toNat : Int) == (n : Int)) := by
  rw [Bool.eq_iff_iff, beq_iff_eq, beq_iff_eq]
  constructor
  · rintro rfl
    rw [UInt8.toNat_ofNat']
    omega
  · intro h
    apply UInt8.toNat_inj.1
    rw [UInt8.toNat_ofNat']
    omega
theorem spe_is (c : UInt8) : speB c = ((((c.toNat : Int) == 64) || ((c.toNat : Int) == 42)) || ((c.toNat : Int) == 35) || ((c.toNat : Int) == 63)) := by
  unfold speB
  rw [show (c == 64) = ((c.toNat : Int) == ((64 : Nat) : Int)) from byte_is c 64 (by omega), show (c == 42) = ((c.toNat : Int) == ((42 : Nat) : Int)) from byte_is c 42 (by omega), show (c == 35) = ((c.toNat : Int) == ((35 : Nat) : Int)) from byte_is c 35 (by omega), show (c == 63) = ((c.toNat : Int) == ((63 : Nat) : Int)) from byte_is c 63 (by omega)]
  rfl
set_option maxRecDepth 20000 in
set_option maxHeartbeats 4000000 in
theorem rnamed_any (s : ByteArray) (w : World) (hs : s.size ≤ 100000) : Calls Tryz.prog 27 #[.string s] w fun e w' => e = .returned (.int .i64 (nmdN s.data.toList : Int)) ∧ w' = w := by
  have HF := hide (fun W => rfront_any s W hs)
  by_cases h0 : s.size = 0
  · have he := empty_of h0
    have hl : s.data.toList = [] := List.eq_nil_of_length_eq_zero (by simpa using h0)
    have hfz : Hid (nmdN s.data.toList = 0) := hide (by rw [hl]; rfl)
    clear hl HF
    go_enter Tryz.func27, Tryz.ntmps27
    go_wp2
    go_ret
    exact ⟨ret_int (by rw [unhide hfz]; rfl), rfl⟩
  have hlt : 0 < s.size := by omega
  have he := nonempty_of hlt
  have hl := head_get hlt
  by_cases hf : 0 < frontN s.data.toList
  · have HP := hide (nmd_front hf)
    obtain ⟨n, hn⟩ : ∃ n, n = frontN s.data.toList := ⟨_, rfl⟩
    rw [← hn] at HF HP hf
    have hn0 : (0 : Int) < (n : Int) := by omega
    clear hl hn
    go_enter Tryz.func27, Tryz.ntmps27
    go_wp2_with fail
    refine (unhide HF _).mono ?_
    rintro e w1 ⟨rfl, rfl⟩
    go_wp2_with fail
    refine (unhide HF _).mono ?_
    rintro e w1 ⟨rfl, rfl⟩
    go_wp2
    go_ret
    exact ⟨ret_int (by rw [unhide HP]), rfl⟩
  · have hf0 : frontN s.data.toList = 0 := by omega
    rw [hf0] at HF
    have HP : Hid (nmdN s.data.toList = if digB (s[0].toNat : Int) || speB s[0] then 1 else 0) := hide (by rw [hl]; exact nmd_cons (by rw [← hl]; exact hf0))
    rw [spe_is] at HP
    clear hl hf hf0
    cases hd : digB (s[0].toNat : Int) with
    | true =>
      rw [hd] at HP
      go_enter Tryz.func27, Tryz.ntmps27
      go_wp2_with fail
      refine (unhide HF _).mono ?_
      rintro e w1 ⟨rfl, rfl⟩
      go_wp2_with fail
      refine (rdigit_any _ _).mono ?_
      rintro e w1 ⟨rfl, rfl⟩
      rw [hd]
      go_wp2
      go_ret
      exact ⟨ret_int (by rw [unhide HP]; rfl), rfl⟩
    | false =>
      rw [hd] at HP
      cases e1 : ((s[0].toNat : Int) == 64) <;> cases e2 : ((s[0].toNat : Int) == 42) <;> cases e3 : ((s[0].toNat : Int) == 35) <;> cases e4 : ((s[0].toNat : Int) == 63)
      all_goals
        rw [e1, e2, e3, e4] at HP
        go_enter Tryz.func27, Tryz.ntmps27
        go_wp2_with fail
        refine (unhide HF _).mono ?_
        rintro e w1 ⟨rfl, rfl⟩
        go_wp2_with fail
        refine (rdigit_any _ _).mono ?_
        rintro e w1 ⟨rfl, rfl⟩
        rw [hd]
        go_wp2
        go_ret
        exact ⟨ret_int (by rw [unhide HP]; rfl), rfl⟩
set_option maxRecDepth 20000 in
set_option maxHeartbeats 4000000 in
theorem rparam_any (s : ByteArray) (w : World) (hs : s.size ≤ 100000) : Calls Tryz.prog 65 #[.string s] w fun e w' => e = .returned (.int .i64 (parN s.data.toList : Int)) ∧ w' = w := by
  have HF := hide (fun W => rfront_any s W hs)
  by_cases h0 : s.size = 0
  · have he := empty_of h0
    have hl : s.data.toList = [] := List.eq_nil_of_length_eq_zero (by simpa using h0)
    have hfz : Hid (parN s.data.toList = 0) := hide (by rw [hl]; rfl)
    clear hl HF
    go_enter Tryz.func65, Tryz.ntmps65
    go_wp2
    go_ret
    exact ⟨ret_int (by rw [unhide hfz]; rfl), rfl⟩
  have hlt : 0 < s.size := by omega
  have he := nonempty_of hlt
  have hl := head_get hlt
  by_cases hf : 0 < frontN s.data.toList
  · have HP := hide (parN_front hf)
    obtain ⟨n, hn⟩ : ∃ n, n = frontN s.data.toList := ⟨_, rfl⟩
    rw [← hn] at HF HP hf
    have hn0 : (0 : Int) < (n : Int) := by omega
    clear hl hn
    go_enter Tryz.func65, Tryz.ntmps65
    go_wp2_with fail
    refine (unhide HF _).mono ?_
    rintro e w1 ⟨rfl, rfl⟩
    go_wp2_with fail
    refine (unhide HF _).mono ?_
    rintro e w1 ⟨rfl, rfl⟩
    go_wp2
    go_ret
    exact ⟨ret_int (by rw [unhide HP]), rfl⟩
  · have hf0 : frontN s.data.toList = 0 := by omega
    rw [hf0] at HF
    have hf1 : frontN (s[0] :: s.data.toList.drop 1) = 0 := by rw [← hl]; exact hf0
    have hsp := spe_is s[0]
    cases e1 : ((s[0].toNat : Int) == 64) <;> cases e2 : ((s[0].toNat : Int) == 42) <;> cases e3 : ((s[0].toNat : Int) == 35) <;> cases e4 : ((s[0].toNat : Int) == 63)
    all_goals rw [e1, e2, e3, e4] at hsp
    case false.false.false.false =>
      have HP := hide (parN_dig hf1 (by rw [hsp]; rfl))
      rw [← hl] at HP
      clear hl hf hf0 hf1 hsp
      go_enter Tryz.func65, Tryz.ntmps65
      go_wp2_with fail
      refine (unhide HF _).mono ?_
      rintro e w1 ⟨rfl, rfl⟩
      go_wp2
      go_loop [3] (fun i => ∃ k : Nat, k ≤ s.size ∧ i = .int .i64 k ∧ Hid (AllTo digB s.data.toList k)) (fun i => s.size - (intOf i).toNat)
      case atStart => exact ⟨0, Nat.zero_le _, rfl, hide (fun j hj hjk => absurd hjk (by omega))⟩
      case round =>
        obtain ⟨k, hk, rfl, hall⟩ := hrel
        have HEND : Hid (spanN digB s.data.toList = k → parN s.data.toList = if 3 < k ∨ (1 < k ∧ s[0] = 48) then 0 else k) := hide (fun e => by rw [unhide HP, e])
        have HC8 : Hid ((((s[0].toNat : Int) == 48) = true) ↔ s[0] = 48) := hide (by have e := byte_is s[0] 48 (by omega); show (((s[0].toNat : Int) == ((48 : Nat) : Int)) = true) ↔ _; rw [← e]; exact beq_iff_eq)
        clear HP
        by_cases hlt2 : k < s.size
        · rcases Bool.eq_false_or_eq_true (digB (s[k].toNat : Int)) with h1 | h1
          · go_wp2_with fail
            refine (rdigit_any _ _).mono ?_
            rintro e w1 ⟨rfl, rfl⟩
            rw [h1]
            go_wp2
            go_round
            case rel => exact ⟨k + 1, by omega, by go_num, hide ((unhide hall).succ (by simpa using hlt2) (by rw [data_get s k hlt2]; exact h1))⟩
            case measure => simp [intOf]; omega
          · have hst : spanN digB s.data.toList = k := spanN_stop digB s.data.toList k (by simpa using hlt2) (unhide hall) (by rw [data_get s k hlt2]; exact h1)
            have HR := hide (unhide HEND hst)
            clear HEND hst
            cases h48 : ((s[0].toNat : Int) == 48)
            all_goals
              by_cases k3 : 3 < k
              · have hk3 : (3 : Int) < (k : Int) := by omega
                go_wp2_with fail
                refine (rdigit_any _ _).mono ?_
                rintro e w1 ⟨rfl, rfl⟩
                rw [h1]
                go_wp2
                go_ret
                exact ⟨ret_int (by rw [unhide HR, if_pos (.inl k3)]; rfl), rfl⟩
              · have hk3 : ¬ (3 : Int) < (k : Int) := by omega
                by_cases k1 : 1 < k
                · have hk1 : (1 : Int) < (k : Int) := by omega
                  go_wp2_with fail
                  refine (rdigit_any _ _).mono ?_
                  rintro e w1 ⟨rfl, rfl⟩
                  rw [h1]
                  go_wp2
                  go_ret
                  first
                    | exact ⟨ret_int (by rw [unhide HR, if_pos (.inr ⟨k1, (unhide HC8).1 h48⟩)]; rfl), rfl⟩
                    | exact ⟨ret_int (by rw [unhide HR, if_neg (by rintro (e | ⟨_, e⟩); exact k3 e; rw [(unhide HC8).2 e] at h48; cases h48)]), rfl⟩
                · have hk1 : ¬ (1 : Int) < (k : Int) := by omega
                  go_wp2_with fail
                  refine (rdigit_any _ _).mono ?_
                  rintro e w1 ⟨rfl, rfl⟩
                  rw [h1]
                  go_wp2
                  go_ret
                  exact ⟨ret_int (by rw [unhide HR, if_neg (by rintro (e | ⟨e, _⟩); exact k3 e; exact k1 e)]), rfl⟩
        · have hst : spanN digB s.data.toList = k := by
            have : k = s.data.toList.length := by rw [data_len]; omega
            rw [this]
            exact spanN_all digB s.data.toList (by rw [← this]; exact unhide hall)
          have HR := hide (unhide HEND hst)
          clear HEND hst
          cases h48 : ((s[0].toNat : Int) == 48)
          all_goals
            by_cases k3 : 3 < k
            · have hk3 : (3 : Int) < (k : Int) := by omega
              go_wp2
              go_ret
              exact ⟨ret_int (by rw [unhide HR, if_pos (.inl k3)]; rfl), rfl⟩
            · have hk3 : ¬ (3 : Int) < (k : Int) := by omega
              by_cases k1 : 1 < k
              · have hk1 : (1 : Int) < (k : Int) := by omega
                go_wp2
                go_ret
                first
                  | exact ⟨ret_int (by rw [unhide HR, if_pos (.inr ⟨k1, (unhide HC8).1 h48⟩)]; rfl), rfl⟩
                  | exact ⟨ret_int (by rw [unhide HR, if_neg (by rintro (e | ⟨_, e⟩); exact k3 e; rw [(unhide HC8).2 e] at h48; cases h48)]), rfl⟩
              · have hk1 : ¬ (1 : Int) < (k : Int) := by omega
                go_wp2
                go_ret
                exact ⟨ret_int (by rw [unhide HR, if_neg (by rintro (e | ⟨e, _⟩); exact k3 e; exact k1 e)]), rfl⟩
    all_goals
      have HP := hide (parN_spe hf1 (by rw [hsp]; rfl))
      rw [← hl] at HP
      clear hl hf hf0 hf1 hsp
      go_enter Tryz.func65, Tryz.ntmps65
      go_wp2_with fail
      refine (unhide HF _).mono ?_
      rintro e w1 ⟨rfl, rfl⟩
      go_wp2
      go_ret
      exact ⟨ret_int (by rw [unhide HP]; rfl), rfl⟩
end Go.Proofs.YtnamfjbfcbamjaaGreatDoor
namespace Go.Proofs.YtnamfjbfcbamjaaGreatDoor
open Go.RowKit
theorem esc_is (k : Nat) (c : UInt8) : escW k c = (((((c.toNat : Int) == 36) || ((c.toNat : Int) == 92)) || ((c.toNat : Int) == 96)) || (((c.toNat : Int) == 34) && k != 5) || (((c.toNat : Int) == 125) && k == 3)) := by
  unfold escW
  rw [show (c == 36) = ((c.toNat : Int) == ((36 : Nat) : Int)) from byte_is c 36 (by omega), show (c == 92) = ((c.toNat : Int) == ((92 : Nat) : Int)) from byte_is c 92 (by omega), show (c == 96) = ((c.toNat : Int) == ((96 : Nat) : Int)) from byte_is c 96 (by omega), show (c == 34) = ((c.toNat : Int) == ((34 : Nat) : Int)) from byte_is c 34 (by omega), show (c == 125) = ((c.toNat : Int) == ((125 : Nat) : Int)) from byte_is c 125 (by omega)]
  rfl
theorem pair_lf {k : Nat} {c : UInt8} (h10 : ((c.toNat : Int) == 10) = false) (h : (allW k && !escW k c) = false) : pairL k [c] = [litP [c] true] := by
  have h1 : c ≠ 10 := by rintro rfl; revert h10; decide
  unfold pairL
  rw [if_neg (by simpa using h1), if_neg (by simp), if_neg (by rw [List.all_cons, List.all_nil, Bool.and_true, h]; simp)]
theorem pair_ls {k : Nat} {c : UInt8} (h10 : ((c.toNat : Int) == 10) = false) (h : (allW k && !escW k c) = true) : pairL k [c] = [litP [92, c] true] := by
  have h1 : c ≠ 10 := by rintro rfl; revert h10; decide
  unfold pairL
  rw [if_neg (by simpa using h1), if_neg (by simp), if_pos (by rw [List.all_cons, List.all_nil, Bool.and_true, h])]
theorem ext12 {t : ByteArray} {a c : UInt8} (ht : t.data.toList = [a, c]) : (t.extract 1 2).data.toList = [c] := by
  rw [ByteArray.data_extract, Array.toList_extract, ht]
  rfl
set_option maxRecDepth 20000 in
set_option maxHeartbeats 8000000 in
theorem rpair_any (k : Nat) (t : ByteArray) (u : List UInt8) (w : World) (b : Nat) (X : Nat → Prop) (ps : List Prt) (er : Int) (hk : k < 6) (ht : t.data.toList = 92 :: u) (hu : u.length ≤ 1) (h : RWt w b X ps er) (hr : Room ps 2) :
    Calls Tryz.prog 46 #[.pointer (some ⟨b, 0, none⟩), .string t, .int .i64 (k : Int)] w fun e w' => e = .returned (.tuple #[]) ∧ RAdds w b X ((pairL k u).foldl addP ps) er w' := by
  have HA : Hid (∀ t : ByteArray, t.size ≤ 2 → Calls Tryz.prog 48 #[.pointer (some ⟨b, 0, none⟩), .string t, .bool true] w fun e w' => e = .returned (.tuple #[]) ∧ RAdds w b X (addP ps (litP t.data.toList true)) er w') := hide (fun t ht => rlit_any w b X ps er t true h (by have := hr.1; omega) (by have := hr.2; omega))
  have HL := hide (RAdds.refl h)
  have hsz : t.size = u.length + 1 := by rw [← data_len, ht]; rfl
  clear h
  match u, hu with
  | [], _ =>
    have hp : pairL k [] = [litP [92] true] := by unfold pairL; simp
    rw [hp, ← ht]
    have h1 : t.size = 1 := hsz
    have hi : t.size ≤ 2 := by omega
    have hq : ((t.size : Int) == 1) = true := by rw [h1]; rfl
    clear hsz hp ht h1
    go_enter Tryz.func46, Tryz.ntmps46
    go_wp2_with fail
    refine (unhide HA _ hi).mono ?_
    rintro e w1 ⟨rfl, hR⟩
    have HR := hide hR
    clear hR
    go_wp2
    first | refine bodyPost_end (res0 rfl _ _) rfl ?_ | refine bodyPost_ret (res0 rfl _ _) rfl ?_
    exact ⟨rfl, unhide HR⟩
  | [c], _ =>
    have h2 : t.size = 2 := hsz
    have hlt : 1 < t.size := by omega
    have hc : t[1]'hlt = c := by
      have e1 : t.data.toList[1]'(by rw [ht]; simp) = c := by simp only [ht]; rfl
      rw [← e1]; rfl
    have hi : t.size ≤ 2 := by omega
    have hx : (t.extract 1 2).data.toList = [c] := ext12 ht
    have hxs : (t.extract 1 2).size ≤ 2 := by rw [← data_len, hx]; exact (by simp)
    have HX := hide hx
    have HT := hide ht
    have hq : ((t.size : Int) == 1) = false := by rw [h2]; rfl
    clear hsz ht hx
    cases e10 : ((c.toNat : Int) == 10) with
    | true =>
      have hp : pairL k [c] = [] := by
        have : c = 10 := by rw [← UInt8.toNat_inj]; simp at e10; exact_mod_cast e10
        subst this
        unfold pairL; simp
      rw [hp]
      clear hp
      go_enter Tryz.func46, Tryz.ntmps46
      go_wp2
      first | refine bodyPost_end (res0 rfl _ _) rfl ?_ | refine bodyPost_ret (res0 rfl _ _) rfl ?_
      exact ⟨rfl, unhide HL⟩
    | false =>
      cases hal : allW k with
      | false =>
        rw [pair_lf e10 (by rw [hal]; rfl)]
        go_enter Tryz.func46, Tryz.ntmps46
        go_wp2_with fail
        refine (rallw_any k _ hk).mono ?_
        rintro e w1 ⟨rfl, rfl⟩
        rw [hal]
        go_wp2_with fail
        refine (unhide HA _ hxs).mono ?_
        rintro e w1 ⟨rfl, hR⟩
        have HR := hide hR
        clear hR
        go_wp2
        first | refine bodyPost_end (res0 rfl _ _) rfl ?_ | refine bodyPost_ret (res0 rfl _ _) rfl ?_
        rw [unhide HX] at HR
        exact ⟨rfl, unhide HR⟩
      | true =>
        have h235 : k = 2 ∨ k = 3 ∨ k = 5 := by unfold allW at hal; simp at hal; omega
        have hes := esc_is k c
        cases e36 : ((c.toNat : Int) == 36) <;> cases e92 : ((c.toNat : Int) == 92) <;> cases e96 : ((c.toNat : Int) == 96) <;> cases e34 : ((c.toNat : Int) == 34) <;> cases e125 : ((c.toNat : Int) == 125)
        all_goals
          rw [e36, e92, e96, e34, e125] at hes
          clear hk
          rcases h235 with rfl | rfl | rfl
        all_goals
          first
          | (exfalso; simp only [beq_iff_eq] at e36 e92 e96 e34 e125; omega)
          | (rw [pair_lf e10 (by rw [hal, hes]; rfl)]
             clear hes
             go_enter Tryz.func46, Tryz.ntmps46
             go_wp2_with fail
             refine (rallw_any _ _ (by decide)).mono ?_
             rintro e w1 ⟨rfl, rfl⟩
             rw [hal]
             go_wp2_with fail
             refine (unhide HA _ hxs).mono ?_
             rintro e w1 ⟨rfl, hR⟩
             have HR := hide hR
             clear hR
             go_wp2
             first | refine bodyPost_end (res0 rfl _ _) rfl ?_ | refine bodyPost_ret (res0 rfl _ _) rfl ?_
             rw [unhide HX] at HR
             exact ⟨rfl, unhide HR⟩)
          | (rw [pair_ls e10 (by rw [hal, hes]; rfl)]
             clear hes
             go_enter Tryz.func46, Tryz.ntmps46
             go_wp2_with fail
             refine (rallw_any _ _ (by decide)).mono ?_
             rintro e w1 ⟨rfl, rfl⟩
             rw [hal]
             go_wp2_with fail
             refine (unhide HA _ hi).mono ?_
             rintro e w1 ⟨rfl, hR⟩
             have HR := hide hR
             clear hR
             go_wp2
             first | refine bodyPost_end (res0 rfl _ _) rfl ?_ | refine bodyPost_ret (res0 rfl _ _) rfl ?_
             rw [unhide HT] at HR
             exact ⟨rfl, unhide HR⟩)
end Go.Proofs.YtnamfjbfcbamjaaGreatDoor

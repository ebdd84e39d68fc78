/-
  The document's taken, lit and sign.
-/
import Derived.Test.YtnamfjbfcbamjaaGreatDoorP08
import Derived.Deep.DeepCutAuto
import Derived.Deep.CutRange
namespace Go.Proofs.YtnamfjbfcbamjaaGreatDoor
open Go.RowKit
theorem u8i {c : UInt8} {n : Nat} (hn : n < 256) (h : ((c.toNat : Int) == (n : Int)) = true) : c = n.toUInt8 := by
  apply UInt8.toNat.inj
  have : c.toNat = n := by have := beq_iff_eq.1 h; omega
  rw [this]; simp; omega
theorem u8n {c : UInt8} {n : Nat} (hn : n < 256) (h : ((c.toNat : Int) == (n : Int)) = false) : (c == n.toUInt8) = false := by
  rw [beq_eq_false_iff_ne] at h ⊢
  intro e
  apply h
  rw [e]; simp; omega
set_option maxRecDepth 20000 in
set_option maxHeartbeats 4000000 in
theorem taken_a (s : ByteArray) (w : World) (hs : s.size ≤ 10000) :
    Calls Tryz.prog 69 #[.string s, .int .u8 34, .int .u8 0] w fun e w' => e = .returned (.string (BA (bslL [36, 34, 92, 96] s.data.toList))) ∧ Below w.heap.size w w' := by
  obtain ⟨i0, hi, hz0, hz1, hz2⟩ := info_of info_byte
  go_enter Tryz.func69, Tryz.ntmps69
  go_wp2
  go_loopw [7, 8] (fun v i wr => ∃ (k : Nat), k ≤ s.size ∧ i = .int .i64 k ∧ OwnB wr w.heap.size v (bslL [36, 34, 92, 96] (s.data.toList.take k)) ∧ Below w.heap.size w wr) (fun _ i _ => s.size - (intOf i).toNat)
  case atStart => exact ⟨0, Nat.zero_le _, rfl, ownB_nil _ _, Below.refl _ _⟩
  case round =>
    obtain ⟨k, hk, rfl, hown, hbel⟩ := hrel
    have hql := bslL_len [36, 34, 92, 96] (s.data.toList.take k)
    have hlen : (bslL [36, 34, 92, 96] (s.data.toList.take k)).length ≤ 20000 := by
      have : (s.data.toList.take k).length ≤ k := List.length_take_le _ _
      omega
    clear hql
    obtain ⟨O, hO⟩ : ∃ O, O = bslL [36, 34, 92, 96] (s.data.toList.take k) := ⟨_, rfl⟩
    rw [← hO] at hown hlen
    have HO := hide hO
    have HB := hide hbel
    clear hO hbel
    by_cases hlt : k < s.size
    · have HTS := hide (take_snoc s k hlt)
      go_upto_region 6 with fail
      obtain ⟨c, hc⟩ : ∃ c, c = s[k] := ⟨_, rfl⟩
      rw [← hc] at HTS ⊢
      have HC := hide hc
      clear hc
      go_cut [46] from 19 to 46 (fun b wx => b = .bool (([36, 34, 92, 96] : List UInt8).contains c) ∧ wx = wr)
      case first =>
        clear hown
        cases h36 : ((c.toNat : Int) == 36) with
        | true =>
          have hyes : ([36, 34, 92, 96] : List UInt8).contains c = true := by rw [u8i (n := 36) (by decide) h36]; decide
          go_wp2
          go_meet
          exact ⟨congrArg Value.bool hyes.symm, rfl⟩
        | false =>
          cases h92 : ((c.toNat : Int) == 92) with
          | true =>
            have hyes : ([36, 34, 92, 96] : List UInt8).contains c = true := by rw [u8i (n := 92) (by decide) h92]; decide
            go_wp2
            go_meet
            exact ⟨congrArg Value.bool hyes.symm, rfl⟩
          | false =>
            cases h96 : ((c.toNat : Int) == 96) with
            | true =>
              have hyes : ([36, 34, 92, 96] : List UInt8).contains c = true := by rw [u8i (n := 96) (by decide) h96]; decide
              go_wp2
              go_meet
              exact ⟨congrArg Value.bool hyes.symm, rfl⟩
            | false =>
              cases h34 : ((c.toNat : Int) == 34) with
              | true =>
                have hyes : ([36, 34, 92, 96] : List UInt8).contains c = true := by rw [u8i (n := 34) (by decide) h34]; decide
                go_wp2
                go_meet
                exact ⟨congrArg Value.bool hyes.symm, rfl⟩
              | false =>
                have hno : ([36, 34, 92, 96] : List UInt8).contains c = false := by
                  have f36 : (c == (36 : UInt8)) = false := u8n (n := 36) (by decide) h36
                  have f92 : (c == (92 : UInt8)) = false := u8n (n := 92) (by decide) h92
                  have f96 : (c == (96 : UInt8)) = false := u8n (n := 96) (by decide) h96
                  have f34 : (c == (34 : UInt8)) = false := u8n (n := 34) (by decide) h34
                  simp only [List.contains, List.elem, f36, f92, f96, f34]
                go_wp2
                go_meet
                exact ⟨congrArg Value.bool hno.symm, rfl⟩
      case rest =>
        obtain ⟨rfl, rfl⟩ := hcut
        cases hin : ([36, 34, 92, 96] : List UInt8).contains c
        · have HIN := hide (bsl_none [36, 34, 92, 96] c hin)
          clear hin
          go_wp2_with (first
            | (at_builtin; refine wpList_append_own _ rfl (.tmp 50) (.tmp 52) 49 rfl w.heap.size 5 i0 (.int .u8 0) 1 1 und_bytes hi hz0 hz1 hz2 rfl (by decide) _ _ _ rfl (hown.alloc _) ⟨wc.heap.size, 0, none⟩ 1 1 [.int .u8 (c.toNat : Int)] rfl rfl one_cell one_is ?d3 ?d4 ?d5 ?_)
            | go_in)
          case d3 => unfold maxLen; omega
          case d4 => omega
          case d5 => have := (unhide HB).size; simp; omega
          intro v2 w3 hown2 hgrow2 _
          have hb2 := own_below hown (unhide HB) (unhide HB).size hgrow2
          have ho2 : OwnB w3 w.heap.size v2 (O ++ [c]) := own_push (zs := [.int .u8 (c.toNat : Int)]) rfl (by simp [Lib.byteCells]) hown2
          have e2 : O ++ [c] = bslL [36, 34, 92, 96] (s.data.toList.take (k + 1)) := by
            rw [unhide HTS, bslL_app, unhide HO, unhide HIN]
          rw [e2] at ho2
          clear hown2 hgrow2 hown e2
          go_wp2
          go_roundw
          case rel => exact ⟨k + 1, by omega, by go_num, ho2, hb2⟩
          case measure => simp [intOf]; omega
        · have HIN := hide (bsl_one [36, 34, 92, 96] c hin)
          clear hin
          go_wp2_with (first
            | (at_builtin; refine wpList_append_own _ rfl (.tmp 47) (.tmp 48) 49 rfl w.heap.size 5 i0 (.int .u8 0) 1 1 und_bytes hi hz0 hz1 hz2 rfl (by decide) _ _ _ rfl (hown.alloc _) ⟨wc.heap.size, 0, none⟩ 1 1 [.int .u8 92] rfl rfl one_cell one_is ?c3 ?c4 ?c5 ?_)
            | go_in)
          case c3 => unfold maxLen; omega
          case c4 => omega
          case c5 => have := (unhide HB).size; simp; omega
          intro v1 w1 hown1 hgrow1 _
          have hb1 := own_below hown (unhide HB) (unhide HB).size hgrow1
          have ho1 : OwnB w1 w.heap.size v1 (O ++ [92]) := own_push (zs := [.int .u8 92]) rfl (by simp [Lib.byteCells]) hown1
          obtain ⟨O1, hO1⟩ : ∃ O1, O1 = O ++ [92] := ⟨_, rfl⟩
          rw [← hO1] at ho1
          have hlen1 : O1.length ≤ 20001 := by rw [hO1]; simp; omega
          have HO1 := hide hO1
          clear hown1 hgrow1 hown hO1
          go_wp2_with (first
            | (at_builtin; refine wpList_append_own _ rfl (.tmp 50) (.tmp 52) 49 rfl w.heap.size 5 i0 (.int .u8 0) 1 1 und_bytes hi hz0 hz1 hz2 rfl (by decide) _ _ _ rfl (ho1.alloc _) ⟨w1.heap.size, 0, none⟩ 1 1 [.int .u8 (c.toNat : Int)] rfl rfl one_cell one_is ?f3 ?f4 ?f5 ?_)
            | go_in)
          case f3 => unfold maxLen; omega
          case f4 => omega
          case f5 => have := hb1.size; simp; omega
          intro v2 w3 hown2 hgrow2 _
          have hb2 := own_below ho1 hb1 hb1.size hgrow2
          have ho2 : OwnB w3 w.heap.size v2 (O1 ++ [c]) := own_push (zs := [.int .u8 (c.toNat : Int)]) rfl (by simp [Lib.byteCells]) hown2
          have e2 : O1 ++ [c] = bslL [36, 34, 92, 96] (s.data.toList.take (k + 1)) := by
            rw [unhide HTS, bslL_app, unhide HO1, unhide HO, unhide HIN]; simp
          rw [e2] at ho2
          clear hown2 hgrow2 ho1 hb1 e2
          go_wp2
          go_roundw
          case rel => exact ⟨k + 1, by omega, by go_num, ho2, hb2⟩
          case measure => simp [intOf]; omega
    · have hcv := hown.text
      clear hown
      go_wp2
      go_ret
      exact ⟨ret_str (by rw [unhide HO, List.take_of_length_le (by simp; omega)]), unhide HB⟩
set_option maxRecDepth 20000 in
set_option maxHeartbeats 4000000 in
theorem taken_b (s : ByteArray) (w : World) (hs : s.size ≤ 10000) :
    Calls Tryz.prog 69 #[.string s, .int .u8 34, .int .u8 125] w fun e w' => e = .returned (.string (BA (bslL [36, 34, 92, 96, 125] s.data.toList))) ∧ Below w.heap.size w w' := by
  obtain ⟨i0, hi, hz0, hz1, hz2⟩ := info_of info_byte
  go_enter Tryz.func69, Tryz.ntmps69
  go_wp2
  go_loopw [7, 8] (fun v i wr => ∃ (k : Nat), k ≤ s.size ∧ i = .int .i64 k ∧ OwnB wr w.heap.size v (bslL [36, 34, 92, 96, 125] (s.data.toList.take k)) ∧ Below w.heap.size w wr) (fun _ i _ => s.size - (intOf i).toNat)
  case atStart => exact ⟨0, Nat.zero_le _, rfl, ownB_nil _ _, Below.refl _ _⟩
  case round =>
    obtain ⟨k, hk, rfl, hown, hbel⟩ := hrel
    have hql := bslL_len [36, 34, 92, 96, 125] (s.data.toList.take k)
    have hlen : (bslL [36, 34, 92, 96, 125] (s.data.toList.take k)).length ≤ 20000 := by
      have : (s.data.toList.take k).length ≤ k := List.length_take_le _ _
      omega
    clear hql
    obtain ⟨O, hO⟩ : ∃ O, O = bslL [36, 34, 92, 96, 125] (s.data.toList.take k) := ⟨_, rfl⟩
    rw [← hO] at hown hlen
    have HO := hide hO
    have HB := hide hbel
    clear hO hbel
    by_cases hlt : k < s.size
    · have HTS := hide (take_snoc s k hlt)
      go_upto_region 6 with fail
      obtain ⟨c, hc⟩ : ∃ c, c = s[k] := ⟨_, rfl⟩
      rw [← hc] at HTS ⊢
      have HC := hide hc
      clear hc
      go_cut [46] from 19 to 46 (fun b wx => b = .bool (([36, 34, 92, 96, 125] : List UInt8).contains c) ∧ wx = wr)
      case first =>
        clear hown
        cases h36 : ((c.toNat : Int) == 36) with
        | true =>
          have hyes : ([36, 34, 92, 96, 125] : List UInt8).contains c = true := by rw [u8i (n := 36) (by decide) h36]; decide
          go_wp2
          go_meet
          exact ⟨congrArg Value.bool hyes.symm, rfl⟩
        | false =>
          cases h92 : ((c.toNat : Int) == 92) with
          | true =>
            have hyes : ([36, 34, 92, 96, 125] : List UInt8).contains c = true := by rw [u8i (n := 92) (by decide) h92]; decide
            go_wp2
            go_meet
            exact ⟨congrArg Value.bool hyes.symm, rfl⟩
          | false =>
            cases h96 : ((c.toNat : Int) == 96) with
            | true =>
              have hyes : ([36, 34, 92, 96, 125] : List UInt8).contains c = true := by rw [u8i (n := 96) (by decide) h96]; decide
              go_wp2
              go_meet
              exact ⟨congrArg Value.bool hyes.symm, rfl⟩
            | false =>
              cases h34 : ((c.toNat : Int) == 34) with
              | true =>
                have hyes : ([36, 34, 92, 96, 125] : List UInt8).contains c = true := by rw [u8i (n := 34) (by decide) h34]; decide
                go_wp2
                go_meet
                exact ⟨congrArg Value.bool hyes.symm, rfl⟩
              | false =>
                cases h125 : ((c.toNat : Int) == 125) with
                | true =>
                  have hyes : ([36, 34, 92, 96, 125] : List UInt8).contains c = true := by rw [u8i (n := 125) (by decide) h125]; decide
                  go_wp2
                  go_meet
                  exact ⟨congrArg Value.bool hyes.symm, rfl⟩
                | false =>
                  have hno : ([36, 34, 92, 96, 125] : List UInt8).contains c = false := by
                    have f36 : (c == (36 : UInt8)) = false := u8n (n := 36) (by decide) h36
                    have f92 : (c == (92 : UInt8)) = false := u8n (n := 92) (by decide) h92
                    have f96 : (c == (96 : UInt8)) = false := u8n (n := 96) (by decide) h96
                    have f34 : (c == (34 : UInt8)) = false := u8n (n := 34) (by decide) h34
                    have f125 : (c == (125 : UInt8)) = false := u8n (n := 125) (by decide) h125
                    simp only [List.contains, List.elem, f36, f92, f96, f34, f125]
                  go_wp2
                  go_meet
                  exact ⟨congrArg Value.bool hno.symm, rfl⟩
      case rest =>
        obtain ⟨rfl, rfl⟩ := hcut
        cases hin : ([36, 34, 92, 96, 125] : List UInt8).contains c
        · have HIN := hide (bsl_none [36, 34, 92, 96, 125] c hin)
          clear hin
          go_wp2_with (first
            | (at_builtin; refine wpList_append_own _ rfl (.tmp 50) (.tmp 52) 49 rfl w.heap.size 5 i0 (.int .u8 0) 1 1 und_bytes hi hz0 hz1 hz2 rfl (by decide) _ _ _ rfl (hown.alloc _) ⟨wc.heap.size, 0, none⟩ 1 1 [.int .u8 (c.toNat : Int)] rfl rfl one_cell one_is ?d3 ?d4 ?d5 ?_)
            | go_in)
          case d3 => unfold maxLen; omega
          case d4 => omega
          case d5 => have := (unhide HB).size; simp; omega
          intro v2 w3 hown2 hgrow2 _
          have hb2 := own_below hown (unhide HB) (unhide HB).size hgrow2
          have ho2 : OwnB w3 w.heap.size v2 (O ++ [c]) := own_push (zs := [.int .u8 (c.toNat : Int)]) rfl (by simp [Lib.byteCells]) hown2
          have e2 : O ++ [c] = bslL [36, 34, 92, 96, 125] (s.data.toList.take (k + 1)) := by
            rw [unhide HTS, bslL_app, unhide HO, unhide HIN]
          rw [e2] at ho2
          clear hown2 hgrow2 hown e2
          go_wp2
          go_roundw
          case rel => exact ⟨k + 1, by omega, by go_num, ho2, hb2⟩
          case measure => simp [intOf]; omega
        · have HIN := hide (bsl_one [36, 34, 92, 96, 125] c hin)
          clear hin
          go_wp2_with (first
            | (at_builtin; refine wpList_append_own _ rfl (.tmp 47) (.tmp 48) 49 rfl w.heap.size 5 i0 (.int .u8 0) 1 1 und_bytes hi hz0 hz1 hz2 rfl (by decide) _ _ _ rfl (hown.alloc _) ⟨wc.heap.size, 0, none⟩ 1 1 [.int .u8 92] rfl rfl one_cell one_is ?c3 ?c4 ?c5 ?_)
            | go_in)
          case c3 => unfold maxLen; omega
          case c4 => omega
          case c5 => have := (unhide HB).size; simp; omega
          intro v1 w1 hown1 hgrow1 _
          have hb1 := own_below hown (unhide HB) (unhide HB).size hgrow1
          have ho1 : OwnB w1 w.heap.size v1 (O ++ [92]) := own_push (zs := [.int .u8 92]) rfl (by simp [Lib.byteCells]) hown1
          obtain ⟨O1, hO1⟩ : ∃ O1, O1 = O ++ [92] := ⟨_, rfl⟩
          rw [← hO1] at ho1
          have hlen1 : O1.length ≤ 20001 := by rw [hO1]; simp; omega
          have HO1 := hide hO1
          clear hown1 hgrow1 hown hO1
          go_wp2_with (first
            | (at_builtin; refine wpList_append_own _ rfl (.tmp 50) (.tmp 52) 49 rfl w.heap.size 5 i0 (.int .u8 0) 1 1 und_bytes hi hz0 hz1 hz2 rfl (by decide) _ _ _ rfl (ho1.alloc _) ⟨w1.heap.size, 0, none⟩ 1 1 [.int .u8 (c.toNat : Int)] rfl rfl one_cell one_is ?f3 ?f4 ?f5 ?_)
            | go_in)
          case f3 => unfold maxLen; omega
          case f4 => omega
          case f5 => have := hb1.size; simp; omega
          intro v2 w3 hown2 hgrow2 _
          have hb2 := own_below ho1 hb1 hb1.size hgrow2
          have ho2 : OwnB w3 w.heap.size v2 (O1 ++ [c]) := own_push (zs := [.int .u8 (c.toNat : Int)]) rfl (by simp [Lib.byteCells]) hown2
          have e2 : O1 ++ [c] = bslL [36, 34, 92, 96, 125] (s.data.toList.take (k + 1)) := by
            rw [unhide HTS, bslL_app, unhide HO1, unhide HO, unhide HIN]; simp
          rw [e2] at ho2
          clear hown2 hgrow2 ho1 hb1 e2
          go_wp2
          go_roundw
          case rel => exact ⟨k + 1, by omega, by go_num, ho2, hb2⟩
          case measure => simp [intOf]; omega
    · have hcv := hown.text
      clear hown
      go_wp2
      go_ret
      exact ⟨ret_str (by rw [unhide HO, List.take_of_length_le (by simp; omega)]), unhide HB⟩
set_option maxRecDepth 20000 in
set_option maxHeartbeats 4000000 in
theorem taken_c (s : ByteArray) (w : World) (hs : s.size ≤ 10000) :
    Calls Tryz.prog 69 #[.string s, .int .u8 0, .int .u8 0] w fun e w' => e = .returned (.string (BA (bslL [36, 92, 96] s.data.toList))) ∧ Below w.heap.size w w' := by
  obtain ⟨i0, hi, hz0, hz1, hz2⟩ := info_of info_byte
  go_enter Tryz.func69, Tryz.ntmps69
  go_wp2
  go_loopw [7, 8] (fun v i wr => ∃ (k : Nat), k ≤ s.size ∧ i = .int .i64 k ∧ OwnB wr w.heap.size v (bslL [36, 92, 96] (s.data.toList.take k)) ∧ Below w.heap.size w wr) (fun _ i _ => s.size - (intOf i).toNat)
  case atStart => exact ⟨0, Nat.zero_le _, rfl, ownB_nil _ _, Below.refl _ _⟩
  case round =>
    obtain ⟨k, hk, rfl, hown, hbel⟩ := hrel
    have hql := bslL_len [36, 92, 96] (s.data.toList.take k)
    have hlen : (bslL [36, 92, 96] (s.data.toList.take k)).length ≤ 20000 := by
      have : (s.data.toList.take k).length ≤ k := List.length_take_le _ _
      omega
    clear hql
    obtain ⟨O, hO⟩ : ∃ O, O = bslL [36, 92, 96] (s.data.toList.take k) := ⟨_, rfl⟩
    rw [← hO] at hown hlen
    have HO := hide hO
    have HB := hide hbel
    clear hO hbel
    by_cases hlt : k < s.size
    · have HTS := hide (take_snoc s k hlt)
      go_upto_region 6 with fail
      obtain ⟨c, hc⟩ : ∃ c, c = s[k] := ⟨_, rfl⟩
      rw [← hc] at HTS ⊢
      have HC := hide hc
      clear hc
      go_cut [46] from 19 to 46 (fun b wx => b = .bool (([36, 92, 96] : List UInt8).contains c) ∧ wx = wr)
      case first =>
        clear hown
        cases h36 : ((c.toNat : Int) == 36) with
        | true =>
          have hyes : ([36, 92, 96] : List UInt8).contains c = true := by rw [u8i (n := 36) (by decide) h36]; decide
          go_wp2
          go_meet
          exact ⟨congrArg Value.bool hyes.symm, rfl⟩
        | false =>
          cases h92 : ((c.toNat : Int) == 92) with
          | true =>
            have hyes : ([36, 92, 96] : List UInt8).contains c = true := by rw [u8i (n := 92) (by decide) h92]; decide
            go_wp2
            go_meet
            exact ⟨congrArg Value.bool hyes.symm, rfl⟩
          | false =>
            cases h96 : ((c.toNat : Int) == 96) with
            | true =>
              have hyes : ([36, 92, 96] : List UInt8).contains c = true := by rw [u8i (n := 96) (by decide) h96]; decide
              go_wp2
              go_meet
              exact ⟨congrArg Value.bool hyes.symm, rfl⟩
            | false =>
              have hno : ([36, 92, 96] : List UInt8).contains c = false := by
                have f36 : (c == (36 : UInt8)) = false := u8n (n := 36) (by decide) h36
                have f92 : (c == (92 : UInt8)) = false := u8n (n := 92) (by decide) h92
                have f96 : (c == (96 : UInt8)) = false := u8n (n := 96) (by decide) h96
                simp only [List.contains, List.elem, f36, f92, f96]
              go_wp2
              go_meet
              exact ⟨congrArg Value.bool hno.symm, rfl⟩
      case rest =>
        obtain ⟨rfl, rfl⟩ := hcut
        cases hin : ([36, 92, 96] : List UInt8).contains c
        · have HIN := hide (bsl_none [36, 92, 96] c hin)
          clear hin
          go_wp2_with (first
            | (at_builtin; refine wpList_append_own _ rfl (.tmp 50) (.tmp 52) 49 rfl w.heap.size 5 i0 (.int .u8 0) 1 1 und_bytes hi hz0 hz1 hz2 rfl (by decide) _ _ _ rfl (hown.alloc _) ⟨wc.heap.size, 0, none⟩ 1 1 [.int .u8 (c.toNat : Int)] rfl rfl one_cell one_is ?d3 ?d4 ?d5 ?_)
            | go_in)
          case d3 => unfold maxLen; omega
          case d4 => omega
          case d5 => have := (unhide HB).size; simp; omega
          intro v2 w3 hown2 hgrow2 _
          have hb2 := own_below hown (unhide HB) (unhide HB).size hgrow2
          have ho2 : OwnB w3 w.heap.size v2 (O ++ [c]) := own_push (zs := [.int .u8 (c.toNat : Int)]) rfl (by simp [Lib.byteCells]) hown2
          have e2 : O ++ [c] = bslL [36, 92, 96] (s.data.toList.take (k + 1)) := by
            rw [unhide HTS, bslL_app, unhide HO, unhide HIN]
          rw [e2] at ho2
          clear hown2 hgrow2 hown e2
          go_wp2
          go_roundw
          case rel => exact ⟨k + 1, by omega, by go_num, ho2, hb2⟩
          case measure => simp [intOf]; omega
        · have HIN := hide (bsl_one [36, 92, 96] c hin)
          clear hin
          go_wp2_with (first
            | (at_builtin; refine wpList_append_own _ rfl (.tmp 47) (.tmp 48) 49 rfl w.heap.size 5 i0 (.int .u8 0) 1 1 und_bytes hi hz0 hz1 hz2 rfl (by decide) _ _ _ rfl (hown.alloc _) ⟨wc.heap.size, 0, none⟩ 1 1 [.int .u8 92] rfl rfl one_cell one_is ?c3 ?c4 ?c5 ?_)
            | go_in)
          case c3 => unfold maxLen; omega
          case c4 => omega
          case c5 => have := (unhide HB).size; simp; omega
          intro v1 w1 hown1 hgrow1 _
          have hb1 := own_below hown (unhide HB) (unhide HB).size hgrow1
          have ho1 : OwnB w1 w.heap.size v1 (O ++ [92]) := own_push (zs := [.int .u8 92]) rfl (by simp [Lib.byteCells]) hown1
          obtain ⟨O1, hO1⟩ : ∃ O1, O1 = O ++ [92] := ⟨_, rfl⟩
          rw [← hO1] at ho1
          have hlen1 : O1.length ≤ 20001 := by rw [hO1]; simp; omega
          have HO1 := hide hO1
          clear hown1 hgrow1 hown hO1
          go_wp2_with (first
            | (at_builtin; refine wpList_append_own _ rfl (.tmp 50) (.tmp 52) 49 rfl w.heap.size 5 i0 (.int .u8 0) 1 1 und_bytes hi hz0 hz1 hz2 rfl (by decide) _ _ _ rfl (ho1.alloc _) ⟨w1.heap.size, 0, none⟩ 1 1 [.int .u8 (c.toNat : Int)] rfl rfl one_cell one_is ?f3 ?f4 ?f5 ?_)
            | go_in)
          case f3 => unfold maxLen; omega
          case f4 => omega
          case f5 => have := hb1.size; simp; omega
          intro v2 w3 hown2 hgrow2 _
          have hb2 := own_below ho1 hb1 hb1.size hgrow2
          have ho2 : OwnB w3 w.heap.size v2 (O1 ++ [c]) := own_push (zs := [.int .u8 (c.toNat : Int)]) rfl (by simp [Lib.byteCells]) hown2
          have e2 : O1 ++ [c] = bslL [36, 92, 96] (s.data.toList.take (k + 1)) := by
            rw [unhide HTS, bslL_app, unhide HO1, unhide HO, unhide HIN]; simp
          rw [e2] at ho2
          clear hown2 hgrow2 ho1 hb1 e2
          go_wp2
          go_roundw
          case rel => exact ⟨k + 1, by omega, by go_num, ho2, hb2⟩
          case measure => simp [intOf]; omega
    · have hcv := hown.text
      clear hown
      go_wp2
      go_ret
      exact ⟨ret_str (by rw [unhide HO, List.take_of_length_le (by simp; omega)]), unhide HB⟩
def wayR (k : Nat) (v : Nat) : Prop := (k = 0 ∧ (v = 0 ∨ v = 1)) ∨ (k = 1 ∧ v = 4) ∨ (k = 2 ∧ v = 3) ∨ (k = 3 ∧ v = 5)
set_option maxHeartbeats 2000000 in
theorem rlitT_any (k v : Nat) (h : wayR k v) (t : List UInt8) (w : World) (ht : t.length ≤ 10000) : Calls Tryz.prog 55 #[.string (BA t), .int .i64 (v : Int)] w fun e w' => e = .returned (.string (BA (litT k t))) ∧ Below w.heap.size w w' := by
  have hbt : (BA t).data.toList = t := by simp
  have hsz : (BA t).size ≤ 10000 := by simpa using ht
  have HQ := hide (rquote_any (BA t) w hsz)
  have HA := hide (taken_a (BA t) w hsz)
  have HB := hide (taken_b (BA t) w hsz)
  have HC := hide (taken_c (BA t) w hsz)
  rw [hbt] at HQ HA HB HC
  have hl1 := bslL_len [36, 34, 92, 96] t
  clear hbt hsz
  rcases h with ⟨rfl, rfl | rfl⟩ | ⟨rfl, rfl⟩ | ⟨rfl, rfl⟩ | ⟨rfl, rfl⟩
  · go_enter Tryz.func55, Tryz.ntmps55
    go_wp2_with fail
    refine (unhide HQ).mono ?_
    rintro e w1 ⟨rfl, b1⟩
    go_wp2
    go_ret
    exact ⟨rfl, b1⟩
  · go_enter Tryz.func55, Tryz.ntmps55
    go_wp2_with fail
    refine (unhide HQ).mono ?_
    rintro e w1 ⟨rfl, b1⟩
    go_wp2
    go_ret
    exact ⟨rfl, b1⟩
  · go_enter Tryz.func55, Tryz.ntmps55
    go_wp2_with fail
    refine (unhide HA).mono ?_
    rintro e w1 ⟨rfl, b1⟩
    go_wp2
    go_ret
    exact ⟨ret_str (dq_cat t), b1⟩
  · by_cases h0 : t = []
    · subst h0
      have hem : (BA []).toList.isEmpty = true := by rw [BA_toList]; rfl
      go_enter Tryz.func55, Tryz.ntmps55
      go_wp2
      go_ret
      exact ⟨rfl, Below.refl _ _⟩
    · have HL : Hid (litT 2 t = bslL [36, 34, 92, 96, 125] t) := hide (by simp [litT, h0])
      have hem : (BA t).toList.isEmpty = false := by rw [BA_toList]; cases t with
        | nil => exact absurd rfl h0
        | cons _ _ => rfl
      go_enter Tryz.func55, Tryz.ntmps55
      go_wp2_with fail
      refine (unhide HB).mono ?_
      rintro e w1 ⟨rfl, b1⟩
      go_wp2
      go_ret
      exact ⟨ret_str (by rw [unhide HL]), b1⟩
  · go_enter Tryz.func55, Tryz.ntmps55
    go_wp2_with fail
    refine (unhide HC).mono ?_
    rintro e w1 ⟨rfl, b1⟩
    go_wp2
    go_ret
    exact ⟨ret_str (by simp [litT]), b1⟩
set_option maxHeartbeats 2000000 in
theorem rsign_any (op : Int) (h0 : 0 ≤ op) (h9 : op ≤ 9) (w : World) : Calls Tryz.prog 56 #[.int .i64 op] w fun e w' => e = .returned (.string (BA (opT op))) ∧ Below w.heap.size w w' := by
  have hcs : op = 0 ∨ op = 1 ∨ op = 2 ∨ op = 3 ∨ op = 4 ∨ op = 5 ∨ op = 6 ∨ op = 7 ∨ op = 8 ∨ op = 9 := by omega
  clear h0 h9
  rcases hcs with rfl | rfl | rfl | rfl | rfl | rfl | rfl | rfl | rfl | rfl
  all_goals
    go_enter Tryz.func56, Tryz.ntmps56
    go_wp2
    go_ret
    exact ⟨rfl, (Below.refl _ _).alloc (Nat.le_refl _) _⟩
end Go.Proofs.YtnamfjbfcbamjaaGreatDoor

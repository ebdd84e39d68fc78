/-
  Package word: what becomes of quoted bytes.
-/
import Derived.Test.YtnamfjbfcbamjaaGreatDoorP04
import Derived.Test.YtnamfjbfcbamjaaGreatDoorP06
import Derived.Test.YtnamfjbfcbamjaaGreatDoorP07
import Derived.Lib.IndexAny
namespace Go.Proofs.YtnamfjbfcbamjaaGreatDoor
open Go.RowKit
theorem take_snocL (t : List UInt8) (k : Nat) (c : UInt8) (h : t[k]? = some c) : t.take (k + 1) = t.take k ++ [c] := by
  obtain ⟨h1, h2⟩ := List.getElem?_eq_some_iff.1 h
  rw [List.take_succ_eq_append_getElem h1, h2]
theorem bsl_one (E : List UInt8) (c : UInt8) (h : E.contains c = true) : bslL E [c] = [92, c] := by simp only [bslL, h, if_true]
theorem bsl_none (E : List UInt8) (c : UInt8) (h : E.contains c = false) : bslL E [c] = [c] := by simp only [bslL, h]; rfl
set_option maxRecDepth 20000 in
set_option maxHeartbeats 2000000 in
theorem esc_any (s : ByteArray) (E : List UInt8) (w : World) (hs : s.size ≤ 10000) :
    Calls Tryz.prog 57 #[.string s, .string (BA E)] w fun e w' => e = .returned (.string (BA (bslL E s.data.toList))) ∧ Below w.heap.size w w' := by
  obtain ⟨i0, hi, hz0, hz1, hz2⟩ := info_of info_byte
  go_enter Tryz.func57, Tryz.ntmps57
  go_wp2
  go_loopw [5, 9] (fun v i wr => ∃ (k : Nat), k ≤ s.size ∧ i = .int .i64 k ∧ OwnB wr w.heap.size v (bslL E (s.data.toList.take k)) ∧ Below w.heap.size w wr) (fun _ i _ => s.size - (intOf i).toNat)
  case atStart => exact ⟨0, Nat.zero_le _, rfl, ownB_nil _ _, Below.refl _ _⟩
  case round =>
    obtain ⟨k, hk, rfl, hown, hbel⟩ := hrel
    have hql := bslL_len E (s.data.toList.take k)
    have hlen : (bslL E (s.data.toList.take k)).length ≤ 20000 := by
      have : (s.data.toList.take k).length ≤ k := List.length_take_le _ _
      omega
    clear hql
    obtain ⟨O, hO⟩ : ∃ O, O = bslL E (s.data.toList.take k) := ⟨_, rfl⟩
    rw [← hO] at hown hlen
    have HO := hide hO
    clear hO
    by_cases hlt : k < s.size
    · have HTS := hide (take_snoc s k hlt)
      have HIX := hide (Tryz.strings_IndexByte (BA E) (s[k].toNat : Int) wr)
      rw [show ((s[k].toNat : Int)).toNat.toUInt8 = s[k] by simp, show (BA E).data.toList = E by simp] at HIX
      have hcon := Lib.contains_iff_indexByte E s[k]
      obtain ⟨K, hK⟩ : ∃ K, K = Lib.indexByte E s[k] := ⟨_, rfl⟩
      rw [← hK] at HIX hcon
      clear hK
      cases hin : E.contains s[k]
      · rw [hin] at hcon
        have hlt2 : ¬ ((0 : Int) ≤ K) := of_decide_eq_false hcon.symm
        have HIN := hide (bsl_none E s[k] hin)
        clear hcon hin
        go_wp2_with fail
        refine (unhide HIX).mono ?_
        rintro e w2 ⟨rfl, rfl⟩
        go_wp2_with (first
          | (at_builtin; refine wpList_append_own _ rfl (.tmp 21) (.tmp 25) 49 rfl w.heap.size 5 i0 (.int .u8 0) 1 1 und_bytes hi hz0 hz1 hz2 rfl (by decide) _ _ _ rfl (hown.alloc _) ⟨w2.heap.size, 0, none⟩ 1 1 [.int .u8 (s[k].toNat : Int)] rfl rfl one_cell one_is ?d3 ?d4 ?d5 ?_)
          | go_in)
        case d3 => unfold maxLen; omega
        case d4 => omega
        case d5 => have := hbel.size; simp; omega
        intro v2 w3 hown2 hgrow2 _
        have hb2 := own_below hown hbel hbel.size hgrow2
        have ho2 : OwnB w3 w.heap.size v2 (O ++ [s[k]]) := own_push (zs := [.int .u8 (s[k].toNat : Int)]) rfl (by simp [Lib.byteCells]) hown2
        have e2 : O ++ [s[k]] = bslL E (s.data.toList.take (k + 1)) := by
          rw [unhide HTS, bslL_app, unhide HO, unhide HIN]
        rw [e2] at ho2
        clear hown2 hgrow2 hown hbel e2
        go_wp2
        go_roundw
        case rel => exact ⟨k + 1, by omega, by go_num, ho2, hb2⟩
        case measure => simp [intOf]; omega
      · rw [hin] at hcon
        have hlt2 : (0 : Int) ≤ K := of_decide_eq_true hcon.symm
        have HIN := hide (bsl_one E s[k] hin)
        clear hcon hin
        go_wp2_with fail
        refine (unhide HIX).mono ?_
        rintro e w2 ⟨rfl, rfl⟩
        go_wp2_with (first
          | (at_builtin; refine wpList_append_own _ rfl (.tmp 18) (.tmp 19) 49 rfl w.heap.size 5 i0 (.int .u8 0) 1 1 und_bytes hi hz0 hz1 hz2 rfl (by decide) _ _ _ rfl (hown.alloc _) ⟨w2.heap.size, 0, none⟩ 1 1 [.int .u8 92] rfl rfl one_cell one_is ?c3 ?c4 ?c5 ?_)
          | go_in)
        case c3 => unfold maxLen; omega
        case c4 => omega
        case c5 => have := hbel.size; simp; omega
        intro v1 w1 hown1 hgrow1 _
        have hb1 := own_below hown hbel hbel.size hgrow1
        have ho1 : OwnB w1 w.heap.size v1 (O ++ [92]) := own_push (zs := [.int .u8 92]) rfl (by simp [Lib.byteCells]) hown1
        obtain ⟨O1, hO1⟩ : ∃ O1, O1 = O ++ [92] := ⟨_, rfl⟩
        rw [← hO1] at ho1
        have hlen1 : O1.length ≤ 20001 := by rw [hO1]; simp; omega
        have HO1 := hide hO1
        clear hown1 hgrow1 hown hbel hO1
        go_wp2_with (first
          | (at_builtin; refine wpList_append_own _ rfl (.tmp 21) (.tmp 25) 49 rfl w.heap.size 5 i0 (.int .u8 0) 1 1 und_bytes hi hz0 hz1 hz2 rfl (by decide) _ _ _ rfl (ho1.alloc _) ⟨w1.heap.size, 0, none⟩ 1 1 [.int .u8 (s[k].toNat : Int)] rfl rfl one_cell one_is ?d3 ?d4 ?d5 ?_)
          | go_in)
        case d3 => unfold maxLen; omega
        case d4 => omega
        case d5 => have := hb1.size; simp; omega
        intro v2 w3 hown2 hgrow2 _
        have hb2 := own_below ho1 hb1 hb1.size hgrow2
        have ho2 : OwnB w3 w.heap.size v2 (O1 ++ [s[k]]) := own_push (zs := [.int .u8 (s[k].toNat : Int)]) rfl (by simp [Lib.byteCells]) hown2
        have e2 : O1 ++ [s[k]] = bslL E (s.data.toList.take (k + 1)) := by
          rw [unhide HTS, bslL_app, unhide HO1, unhide HO, unhide HIN]; simp
        rw [e2] at ho2
        clear hown2 hgrow2 ho1 hb1 e2
        go_wp2
        go_roundw
        case rel => exact ⟨k + 1, by omega, by go_num, ho2, hb2⟩
        case measure => simp [intOf]; omega
    · have hcv := hown.text
      have HB := hide hbel
      clear hown hbel
      go_wp2
      go_ret
      exact ⟨ret_str (by rw [unhide HO, List.take_of_length_le (by simp; omega)]), unhide HB⟩
theorem ba_ext {a b : ByteArray} (h : a.data.toList = b.data.toList) : a = b := by
  obtain ⟨a⟩ := a
  obtain ⟨b⟩ := b
  simp at h
  rw [show a = b from Array.toList_inj.1 (by simpa using h)]
theorem dq_cat (t : List UInt8) : (⟨#[34]⟩ : ByteArray) ++ BA (bslL [36, 34, 92, 96] t) ++ ⟨#[34]⟩ = BA (litT 1 t) := by
  apply ba_ext
  simp [litT]
set_option maxHeartbeats 1000000 in
theorem dq_any (t : List UInt8) (w : World) (ht : t.length ≤ 10000) : Calls Tryz.prog 72 #[.string (BA t)] w fun e w' => e = .returned (.string (BA (litT 1 t))) ∧ Below w.heap.size w w' := by
  have HC := hide (esc_any (BA t) [36, 34, 92, 96] w (by simpa using ht))
  have hq := bslL_len [36, 34, 92, 96] t
  rw [show (BA t).data.toList = t by simp] at HC
  go_enter Tryz.func72, Tryz.ntmps72
  go_wp2_with fail
  refine (unhide HC).mono ?_
  rintro e w1 ⟨rfl, b1⟩
  go_wp2
  go_ret
  exact ⟨ret_str (dq_cat t), b1⟩
set_option maxHeartbeats 1000000 in
theorem bq_any (t : List UInt8) (w : World) (ht : t.length ≤ 10000) : Calls Tryz.prog 73 #[.string (BA t)] w fun e w' => e = .returned (.string (BA (litT 2 t))) ∧ Below w.heap.size w w' := by
  by_cases h0 : t = []
  · subst h0
    have hem : (BA []).toList.isEmpty = true := by rw [BA_toList]; rfl
    go_enter Tryz.func73, Tryz.ntmps73
    go_wp2
    go_ret
    exact ⟨rfl, Below.refl _ _⟩
  have HC := hide (esc_any (BA t) [36, 34, 92, 96, 125] w (by simpa using ht))
  rw [show (BA t).data.toList = t by simp] at HC
  have HL : Hid (litT 2 t = bslL [36, 34, 92, 96, 125] t) := hide (by simp [litT, h0])
  have hem : (BA t).toList.isEmpty = false := by rw [BA_toList]; cases t with
    | nil => exact absurd rfl h0
    | cons _ _ => rfl
  go_enter Tryz.func73, Tryz.ntmps73
  go_wp2_with fail
  refine (unhide HC).mono ?_
  rintro e w1 ⟨rfl, b1⟩
  go_wp2
  go_ret
  exact ⟨ret_str (by rw [unhide HL]), b1⟩
set_option maxHeartbeats 1000000 in
theorem pq_any (t : List UInt8) (w : World) (ht : t.length ≤ 10000) : Calls Tryz.prog 37 #[.string (BA t)] w fun e w' => e = .returned (.string (BA (litT 3 t))) ∧ Below w.heap.size w w' := by
  have HC := hide (esc_any (BA t) [36, 92, 96] w (by simpa using ht))
  rw [show (BA t).data.toList = t by simp] at HC
  go_enter Tryz.func37, Tryz.ntmps37
  go_wp2_with fail
  refine (unhide HC).mono ?_
  rintro e w1 ⟨rfl, b1⟩
  go_wp2
  go_ret
  exact ⟨ret_str (by simp [litT]), b1⟩
end Go.Proofs.YtnamfjbfcbamjaaGreatDoor

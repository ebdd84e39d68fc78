/-
  The document's longest operator at a place.
-/
import Derived.Test.YtlmpdfeidjnmnaaDoorRSmall
namespace Go.Proofs.YtlmpdfeidjnmnaaDoor
open Go.RowKit

theorem hasP_ext {s : ByteArray} {p : Nat} {o : List UInt8} : (s.extract p (p + o.length) = BA o) ↔ Lib.hasPrefix (s.data.toList.drop p) o = true := by
  rw [extract_take]
  constructor
  · intro h
    have h := BA_inj h
    show o.isPrefixOf _ = true
    rw [List.isPrefixOf_iff_prefix, List.prefix_iff_eq_take]
    exact h.symm
  · intro h
    have h : o.isPrefixOf (s.data.toList.drop p) = true := h
    rw [List.isPrefixOf_iff_prefix, List.prefix_iff_eq_take] at h
    rw [← h]
theorem hasP_long {s : ByteArray} {p : Nat} {o : List UInt8} (hp : ¬ p + o.length ≤ s.size) (h0 : p ≤ s.size) : Lib.hasPrefix (s.data.toList.drop p) o = false := by
  cases h : Lib.hasPrefix (s.data.toList.drop p) o with
  | false => rfl
  | true =>
    have h : o.isPrefixOf (s.data.toList.drop p) = true := h
    rw [List.isPrefixOf_iff_prefix] at h
    have := h.length_le
    rw [List.length_drop, data_len] at this
    omega

set_option maxRecDepth 20000 in
set_option maxHeartbeats 4000000 in
theorem rop_any (s : ByteArray) (p : Nat) (w : World) (hs : s.size ≤ 100000) (hp : p ≤ s.size) : Calls Tryd.prog 23 #[.string s, .int .i64 (p : Int)] w fun e w' => e = .returned (.string (BA (opL (s.data.toList.drop p)))) ∧ Below w.heap.size w w' := by
  obtain ⟨wA, hwA⟩ : ∃ x, x = w.alloc (.cells #[.string ⟨#[60, 60, 45]⟩, .string ⟨#[38, 38]⟩, .string ⟨#[124, 124]⟩, .string ⟨#[59, 59]⟩, .string ⟨#[60, 60]⟩, .string ⟨#[62, 62]⟩, .string ⟨#[60, 38]⟩, .string ⟨#[62, 38]⟩, .string ⟨#[60, 62]⟩, .string ⟨#[124]⟩, .string ⟨#[38]⟩, .string ⟨#[59]⟩, .string ⟨#[60]⟩, .string ⟨#[62]⟩, .string ⟨#[40]⟩, .string ⟨#[41]⟩] 9) := ⟨_, rfl⟩
  have hcell : ∀ (k : Nat) (O : List UInt8), opsR[k]? = some O → wA.cell? ⟨w.heap.size, k, none⟩ = some (.string (BA O)) := by
    intro k O hO
    rw [hwA]
    refine (Blk.new w 9 _).cell k ?_
    have hk := (List.getElem?_eq_some_iff.1 hO).1
    have hk : k < 16 := hk
    match k, hk, hO with
    | 0, _, hO | 1, _, hO | 2, _, hO | 3, _, hO | 4, _, hO | 5, _, hO | 6, _, hO | 7, _, hO | 8, _, hO | 9, _, hO | 10, _, hO | 11, _, hO | 12, _, hO | 13, _, hO | 14, _, hO | 15, _, hO => injection hO with hO; subst hO; rfl
  have bA : Below w.heap.size w wA := by rw [hwA]; exact (Below.refl _ w).alloc (Nat.le_refl _) _
  have hszA : w.heap.size < wA.heap.size := by rw [hwA]; simp
  have HC := hide hcell
  have BA' := hide bA
  obtain ⟨R, hR⟩ : ∃ R, R = opL (s.data.toList.drop p) := ⟨_, rfl⟩
  have HR : Hid (opRF (s.data.toList.drop p) 0 = R) := hide (by rw [hR]; exact opRF_eq _)
  rw [← hR]
  clear hcell bA hR
  go_enter Tryd.func23, Tryd.ntmps23
  go_wp2_with fail
  rw [← hwA]
  clear hwA
  go_loopw [6] (fun i wr => ∃ k : Nat, k ≤ 16 ∧ i = .int .i64 (k : Int) ∧ Hid (opRF (s.data.toList.drop p) k = R) ∧ Hid (Below wA.heap.size wA wr)) (fun i _ => 16 - (intOf i).toNat)
  case atStart => exact ⟨0, by decide, rfl, HR, hide (Below.refl _ _)⟩
  case round =>
    obtain ⟨k, hk, rfl, HK, HB⟩ := hrel
    by_cases hlt : k < 16
    · obtain ⟨O, hO⟩ : ∃ O, opsR[k]? = some O := ⟨_, List.getElem?_eq_getElem hlt⟩
      have hc : wr.cell? ⟨w.heap.size, k, none⟩ = some (.string (BA O)) := by
        rw [World.cell?_of_block ((unhide HB).block w.heap.size hszA)]
        exact unhide HC k O hO
      have hOl : O.length ≤ 3 := (by decide : ∀ o ∈ opsR, o.length ≤ 3) O (List.mem_of_getElem? hO)
      have hlt' : (k : Int) < 16 := by omega
      have hk0 : (0 : Int) ≤ (k : Int) := by omega
      obtain ⟨z, hz⟩ : ∃ z, z = p + O.length := ⟨_, rfl⟩
      have hwz : IntKind.i64.wrap ((p : Int) + (O.length : Int)) = (z : Int) := by rw [IntKind.wrap_i64]; omega
      have hwk : IntKind.i64.wrap ((k : Int) + 1) = ((k + 1 : Nat) : Int) := by rw [IntKind.wrap_i64]; omega
      obtain ⟨o, ho⟩ : ∃ o, o = BA O := ⟨_, rfl⟩
      have hos : o.size = O.length := by rw [ho]; rfl
      by_cases hzs : z ≤ s.size
      · have hzs' : (z : Int) ≤ (s.size : Int) := by omega
        have hzd : decide (z ≤ s.size) = true := decide_eq_true hzs
        have hpz : (p : Int) ≤ (z : Int) := by omega
        have hpzn : p ≤ z := by omega
        by_cases he : s.extract p z = BA O
        · have HF : Hid (R = O) := hide (by
            rw [← unhide HK]
            exact opRF_yes hO (hasP_ext.1 (by rw [← hz]; exact he)))
          have hbe : ((s.extract p z).toList == (BA O).toList) = true := by rw [he]; exact beq_self_eq_true _
          clear he hO hz ho hos
          go_wp2_with fail
          go_quiet (fail)
          go_wp2
          go_ret
          rw [unhide HF]
          exact ⟨rfl, (unhide BA').trans (((unhide HB).mono (Nat.le_of_lt hszA)).trans ((below_drew _ _).mono (Nat.le_trans (Nat.le_of_lt hszA) (unhide HB).size)))⟩
        · have HF : Hid (opRF (s.data.toList.drop p) (k + 1) = R) := hide (by
            rw [← unhide HK]
            refine (opRF_no hO ?_).symm
            cases hx : Lib.hasPrefix (s.data.toList.drop p) O with
            | false => rfl
            | true => exact absurd (hasP_ext.2 hx) (by rw [← hz]; exact he))
          have hbe : ((s.extract p z).toList == (BA O).toList) = false := by
            rw [beq_eq_false_iff_ne, ByteArray.toList_eq, ByteArray.toList_eq]
            intro e
            exact he (by rw [← BA_of (s.extract p z), e]; rfl)
          clear he hO hz ho hos
          go_wp2_with fail
          go_quiet (fail)
          go_wp2
          go_roundw
          case rel => exact ⟨k + 1, by omega, by go_num, HF, hide ((unhide HB).trans ((below_drew _ _).mono (unhide HB).size))⟩
          case measure => simp [intOf]; omega
      · have hzs' : ¬ (z : Int) ≤ (s.size : Int) := by omega
        have hzd : decide (z ≤ s.size) = false := decide_eq_false hzs
        have HF : Hid (opRF (s.data.toList.drop p) (k + 1) = R) := hide (by
          rw [← unhide HK]
          exact (opRF_no hO (hasP_long (by omega) hp)).symm)
        clear hO hz ho hos
        go_wp2_with fail
        go_quiet (fail)
        go_wp2
        go_roundw
        case rel => exact ⟨k + 1, by omega, by go_num, HF, hide ((unhide HB).trans ((below_drew _ _).mono (unhide HB).size))⟩
        case measure => simp [intOf]; omega
    · have hlt' : ¬ (k : Int) < 16 := by omega
      have HF : Hid (R = []) := hide (by
        rw [← unhide HK]
        unfold opRF
        rw [List.drop_eq_nil_of_le (show opsR.length ≤ k by show 16 ≤ k; omega)]
        rfl)
      go_wp2
      go_ret
      rw [unhide HF]
      exact ⟨rfl, (unhide BA').trans ((unhide HB).mono (Nat.le_of_lt hszA))⟩

end Go.Proofs.YtlmpdfeidjnmnaaDoor

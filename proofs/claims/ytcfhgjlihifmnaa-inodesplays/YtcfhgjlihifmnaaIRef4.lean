/-
  The document's table: used, Free.
-/
import Derived.Test.YtcfhgjlihifmnaaIRef3
import Derived.Deep.RegionHeld3
namespace Go.Proofs.Ytcfhgjlihifmnaa
open Go.RowKit Go.Maps

/-- How many blocks the first nodes have, the node 0 among them. -/
def usdTo (T : TB) (i : Nat) : Nat := ((((none : Option Nd) :: T).take i).map usd).sum
def cntTo (f : Nat → Bool) (k : Nat) : Nat := (List.range k).countP f
theorem cntTo_succ (f : Nat → Bool) (k : Nat) : cntTo f (k + 1) = cntTo f k + (if f k then 1 else 0) := by
  unfold cntTo
  rw [List.range_succ, List.countP_append, List.countP_singleton]
theorem cntTo_le (f : Nat → Bool) (k : Nat) : cntTo f k ≤ k := by
  have := List.countP_le_length (p := f) (l := List.range k)
  simpa [cntTo] using this
theorem usdTo_succ {T : TB} {i : Nat} {o : Option Nd} (h : ((none : Option Nd) :: T)[i]? = some o) : usdTo T (i + 1) = usdTo T i + usd o := by
  unfold usdTo
  rw [List.take_add_one, h, List.map_append, List.sum_append]
  simp
theorem usdTo_all (T : TB) : usdTo T (T.length + 1) = usedT T := by
  unfold usdTo usedT
  rw [List.take_of_length_le (by simp)]
  simp [usd]
theorem usdTo_le (T : TB) : ∀ i, usdTo T i ≤ 64 * i
  | 0 => by simp [usdTo]
  | i + 1 => by
    have ih := usdTo_le T i
    cases h : ((none : Option Nd) :: T)[i]? with
    | none =>
      unfold usdTo at ih ⊢
      rw [List.take_add_one, h]
      simp at ih ⊢
      omega
    | some o =>
      rw [usdTo_succ h]
      have : usd o ≤ 64 := by
        unfold usd
        split
        · omega
        · exact cnt_le _
      omega
set_option maxRecDepth 20000 in
set_option maxHeartbeats 2000000 in
theorem rused_any {w : World} {q nb : Nat} {K : RLay} {T : TB} (H : RL w q K T nb) : Calls Try.prog 45 #[.pointer (some ⟨q, 0, none⟩)] w fun e w' => e = .returned (.int .i64 (usedT T : Int)) ∧ w' = w := by
  have q0 := H.tab.cell 0 rfl
  change _ = some (Value.slice (some ⟨K.r, 0, none⟩) (T.length + 1) K.c) at q0
  have hmx := H.max
  have HC : Hid (∀ i, i < T.length + 1 → ∃ (o : Option Nd) (ad : Option Addr) (m c : Nat), ((none : Option Nd) :: T)[i]? = some o ∧ w.cell? ⟨K.r, i * 5 + 4, none⟩ = some (.slice ad m c) ∧ ((m = 0 ∧ usd o = 0) ∨ (m = 64 ∧ ∃ f h, usd o = cntTo f 64 ∧ ad = some ⟨h, 0, none⟩ ∧ ∀ k, k < 64 → w.cell? ⟨h, k, none⟩ = some (.bool (f k))))) := hide (fun i hi => by
    obtain ⟨cs, hr, z1, z2, z3, z4⟩ := H.row
    have hlt : i < (((none : Option Nd) :: T)).length := by simpa using hi
    obtain ⟨o, ho⟩ : ∃ o, ((none : Option Nd) :: T)[i]? = some o := ⟨_, List.getElem?_eq_getElem hlt⟩
    have c4 := hr.cell _ (z4 i o ho 4 (by decide))
    cases o with
    | none => exact ⟨none, none, 0, 0, ho, c4, .inl ⟨rfl, rfl⟩⟩
    | some x =>
      cases i with
      | zero => simp at ho
      | succ i =>
        obtain ⟨ds, d1, d2, d3⟩ := H.has i x ho
        exact ⟨some x, some ⟨K.h (i + 1), 0, none⟩, 64, K.hc (i + 1), ho, c4, .inr ⟨rfl, x.has, K.h (i + 1), rfl, rfl, fun k hk => d1.cell k (d3 k hk)⟩⟩)
  have HR : Hid (usdTo T (T.length + 1) = usedT T) := hide (usdTo_all T)
  obtain ⟨r, hr⟩ : ∃ r, r = K.r := ⟨_, rfl⟩
  obtain ⟨c, hc⟩ : ∃ c, c = K.c := ⟨_, rfl⟩
  obtain ⟨n, hn⟩ : ∃ n, n = T.length := ⟨_, rfl⟩
  rw [← hn, ← hr, ← hc] at q0
  rw [← hr, ← hn] at HC
  rw [← hn] at HR hmx
  obtain ⟨U, hU⟩ : ∃ U : Int, U = (usedT T : Int) := ⟨_, rfl⟩
  rw [← hU]
  have HU := hide hU
  clear hr hc hn hU H
  go_enter Try.func45, Try.ntmps45
  go_wp2_with fail
  go_loop [3, 4] (fun u v => ∃ i m : Nat, v = .int .i64 (i : Int) ∧ u = .int .i64 (m : Int) ∧ i ≤ n + 1 ∧ m ≤ 64 * i ∧ Hid (m = usdTo T i)) (fun _ v => n + 2 - (intOf v).toNat)
  case atStart => exact ⟨0, 0, rfl, rfl, by omega, by omega, hide rfl⟩
  case round =>
    obtain ⟨i, m, rfl, rfl, hi, hm, HM⟩ := hrel
    by_cases hlt : i < n + 1
    · have hlt1 : (i : Int) < (n : Int) + 1 := by omega
      have h0 : (0 : Int) ≤ (i : Int) := by omega
      obtain ⟨o, ad, ml, mc, ho, c4, hcs⟩ := unhide HC i hlt
      have HSU := hide (usdTo_succ ho)
      clear ho
      rcases hcs with ⟨rfl, hu⟩ | ⟨rfl, f, h, hu, rfl, hf⟩
      · rw [hu] at HSU
        clear hu
        go_wp2_with fail
        refine wp_loop_rounds 1 ?_
        rw [rounds_succ]
        go_wp2
        go_round
        case rel => exact ⟨i + 1, m, by go_num, rfl, by omega, by omega, hide (by rw [unhide HSU, ← unhide HM]; rfl)⟩
        case measure => simp [intOf]; omega
      · rw [hu] at HSU
        have HF := hide hf
        clear hu hf
        go_wp2_with fail
        go_loop [3, 5] (fun u v => ∃ k m2 : Nat, v = .int .i64 (k : Int) ∧ u = .int .i64 (m2 : Int) ∧ k ≤ 64 ∧ m2 ≤ m + k ∧ Hid (m2 = m + cntTo f k)) (fun _ v => 65 - (intOf v).toNat)
        case atStart => exact ⟨0, m, rfl, rfl, by omega, by omega, hide rfl⟩
        case round =>
          obtain ⟨k, m2, rfl, rfl, hk, hm2, HM2⟩ := hrel
          by_cases hlk : k < 64
          · have hk1 : (k : Int) < 64 := by omega
            have hk0 : (0 : Int) ≤ (k : Int) := by omega
            have c5 := unhide HF k hlk
            have HCS := hide (cntTo_succ f k)
            cases hfk : f k with
            | true =>
              rw [hfk] at c5 HCS
              clear hfk
              go_wp2
              go_round
              case rel => exact ⟨k + 1, m2 + 1, by go_num, by go_num, by omega, by omega, hide (by rw [unhide HCS, unhide HM2]; rfl)⟩
              case measure => simp [intOf]; omega
            | false =>
              rw [hfk] at c5 HCS
              clear hfk
              go_wp2
              go_round
              case rel => exact ⟨k + 1, m2, by go_num, rfl, by omega, by omega, hide (by rw [unhide HCS, unhide HM2]; rfl)⟩
              case measure => simp [intOf]; omega
          · have hk1 : ¬ (k : Int) < 64 := by omega
            have HK : Hid (k = 64) := hide (by omega)
            go_wp2
            go_round
            case rel => exact ⟨i + 1, m2, by go_num, rfl, by omega, by have := unhide HK; omega, hide (by rw [unhide HSU, unhide HM2, ← unhide HM, unhide HK])⟩
            case measure => simp [intOf]; omega
    · have hlt1 : ¬ (i : Int) < (n : Int) + 1 := by omega
      have HI : Hid (i = n + 1) := hide (by omega)
      go_wp2
      go_ret
      refine ⟨ret_int ?_, rfl⟩
      have h1 := unhide HM
      rw [unhide HI, unhide HR] at h1
      rw [unhide HU, ← h1]

set_option maxRecDepth 20000 in
set_option maxHeartbeats 2000000 in
theorem rfree_any {w : World} {q nb : Nat} {Y : Nat → Prop} {T : TB} (H : RAt w q Y T nb) (hgd : ∀ (k : Nat) (x : Nd), T[k]? = some (some x) → 1 ≤ x.kind) (hub : usedT T ≤ nb) (hnb : nb ≤ 4096) : Calls Try.prog 20 #[.pointer (some ⟨q, 0, none⟩)] w fun e w' => e = .returned (.tuple #[.int .i64 (freeT T : Int), .int .i64 ((nb - usedT T : Nat) : Int)]) ∧ Below w.heap.size w w' := by
  obtain ⟨K, HL, hin⟩ := H
  have q0 := HL.tab.cell 0 rfl
  have q1 := HL.tab.cell 1 rfl
  change _ = some (Value.slice (some ⟨K.r, 0, none⟩) (T.length + 1) K.c) at q0
  change _ = some (Value.int .i64 (nb : Int)) at q1
  have hmx := HL.max
  have HUS : Hid (∀ W, Below w.heap.size w W → Calls Try.prog 45 #[.pointer (some ⟨q, 0, none⟩)] W fun e w' => e = .returned (.int .i64 (usedT T : Int)) ∧ w'.cell? ⟨q, 1, none⟩ = some (.int .i64 (nb : Int)) ∧ Hid (Below w.heap.size w w')) := hide (fun W hb => by
    have HW := HL.grownS (S := fun _ => False) (grownS_of_below hb) (HL.lt.mono (fun _ _ e => e))
    refine (rused_any HW).mono ?_
    rintro e w' ⟨h1, h2⟩
    rw [show w' = W from h2]
    exact ⟨h1, HW.tab.cell 1 rfl, hide hb⟩)
  have HC : Hid (∀ i, i < T.length → ∃ o, T[i]? = some o ∧ w.cell? ⟨K.r, (i + 1) * 5, none⟩ = some (.int .i64 (kindOf o : Int)) ∧ (kindOf o = 0 ↔ o = none)) := hide (fun i hi => by
    obtain ⟨o, ho⟩ : ∃ o, T[i]? = some o := ⟨_, List.getElem?_eq_getElem hi⟩
    have c0 := (HL.cell0 ho).1
    cases o with
    | none => exact ⟨none, ho, c0, ⟨fun _ => rfl, fun _ => rfl⟩⟩
    | some x => exact ⟨some x, ho, c0, ⟨fun h => by have := hgd i x ho; have h : x.kind = 0 := h; omega, fun h => by cases h⟩⟩)
  obtain ⟨r, hr⟩ : ∃ r, r = K.r := ⟨_, rfl⟩
  obtain ⟨c, hc⟩ : ∃ c, c = K.c := ⟨_, rfl⟩
  obtain ⟨n, hn⟩ : ∃ n, n = T.length := ⟨_, rfl⟩
  rw [← hn, ← hr, ← hc] at q0
  rw [← hr, ← hn] at HC
  rw [← hn] at hmx
  have HN := hide hn
  obtain ⟨F, hF⟩ : ∃ F : Int, F = (freeT T : Int) := ⟨_, rfl⟩
  obtain ⟨us, hus⟩ : ∃ us, us = usedT T := ⟨_, rfl⟩
  obtain ⟨B, hB⟩ : ∃ B : Int, B = ((nb - usedT T : Nat) : Int) := ⟨_, rfl⟩
  rw [← hF, ← hB]
  rw [← hus] at HUS hub hB
  have HF := hide hF
  have hsub : (nb : Int) - (us : Int) = B := by omega
  clear hr hc hn hF hus HL hin hgd hB
  go_enter Try.func20, Try.ntmps20
  go_wp2_with fail
  go_loop [4, 5] (fun u v => ∃ i m : Nat, v = .int .i64 ((i : Int) + 1) ∧ u = .int .i64 (m : Int) ∧ i ≤ n ∧ m ≤ i ∧ Hid (m = (T.take i).countP (·.isNone))) (fun _ v => n + 2 - (intOf v).toNat)
  case atStart => exact ⟨0, 0, rfl, rfl, by omega, by omega, hide rfl⟩
  case round =>
    obtain ⟨i, m, rfl, rfl, hi, hm, HM⟩ := hrel
    by_cases hlt : i < n
    · have hlt1 : (i : Int) + 1 < (n : Int) + 1 := by omega
      have h0 : (0 : Int) ≤ (i : Int) + 1 := by omega
      obtain ⟨o, ho, c0, hz⟩ := unhide HC i hlt
      have HCT := hide (countT_take ho)
      obtain ⟨kd, hkd⟩ : ∃ kd, kd = kindOf o := ⟨_, rfl⟩
      rw [← hkd] at c0 hz
      clear ho hkd
      by_cases hk : kd = 0
      · have e := hz.1 hk
        subst e hk
        clear hz
        go_wp2
        go_round
        case rel => exact ⟨i + 1, m + 1, by go_num, by go_num, by omega, by omega, hide (by rw [unhide HCT, ← unhide HM]; rfl)⟩
        case measure => simp [intOf]; omega
      · have hkb : ((kd : Int) == 0) = false := by simp; omega
        have HO : Hid (o.isNone = false) := hide (by
          cases o with
          | none => exact absurd (hz.2 rfl) hk
          | some _ => rfl)
        clear hz hk
        go_wp2
        go_round
        case rel => exact ⟨i + 1, m, by go_num, rfl, by omega, by omega, hide (by rw [unhide HCT, ← unhide HM, unhide HO]; rfl)⟩
        case measure => simp [intOf]; omega
    · have hlt1 : ¬ (i : Int) + 1 < (n : Int) + 1 := by omega
      have HI : Hid (i = n) := hide (by omega)
      have hwr : IntKind.i64.wrap ((nb : Int) - (us : Int)) = B := by rw [IntKind.wrap_i64]; omega
      clear hsub
      go_wp2_with fail
      go_region_held3 (fun w' => w'.cell? ⟨q, 1, none⟩ = some (.int .i64 (nb : Int))) (go_keep) ((go_at_call 45; refine (unhide HUS _ (by first | exact Below.refl _ _ | exact below_drew _ _)).mono ?_; rintro e wa ⟨rfl, a0, HA2⟩))
      go_wp2
      go_ret2
      refine ⟨?_, unhide HA2⟩
      have h1 := unhide HM
      rw [List.take_of_length_le (by have := unhide HN; have := unhide HI; omega)] at h1
      rw [unhide HF, freeT, ← h1]
      rfl

end Go.Proofs.Ytcfhgjlihifmnaa

/-
  SplitHard: texts with one hard byte behind each.
-/
import Derived.Test.YtpljphbaibncjaaSStart
import Derived.Deep.LoopGhost
namespace Go.Proofs.Ytpljphbaibncjaa
open Go.RowKit

def hardT (L : List (List UInt8)) : List UInt8 := L.flatMap fun t => t ++ [58]
theorem bytes_other (ifs : List UInt8) : ∀ (t : List UInt8) (s : SS), (∀ c ∈ t, ifs.contains c = false) → s.mark = false → t.foldl (byteS ifs) s = ⟨s.out, s.made ++ qt false t, s.there || !t.isEmpty, false⟩
  | [], s, _, hm => by
    rw [List.foldl_nil, ← hm]
    simp [qt]
  | c :: t, s, h, hm => by
    have hk : kindB ifs c = 0 := by unfold kindB; rw [h c (by simp)]; rfl
    rw [List.foldl_cons, show byteS ifs s c = addS s [c] false by unfold byteS; rw [hk]; rfl, bytes_other ifs t _ (fun x hx => h x (by simp [hx])) rfl]
    simp [addS, qt]
theorem hard_fold : ∀ (L : List (List UInt8)) (out : List Fd), (∀ t ∈ L, t.contains 58 = false) → (hardT L).foldl (byteS [58]) ⟨out, [], false, false⟩ = ⟨out ++ L.map (qt false), [], false, false⟩
  | [], out, _ => by simp [hardT]
  | t :: L, out, h => by
    have e : hardT (t :: L) = t ++ 58 :: hardT L := by simp [hardT]
    have h1 : ∀ c ∈ t, ([58] : List UInt8).contains c = false := fun c hc => by
      have := h t (by simp)
      simp only [List.contains_eq_mem, List.mem_singleton, decide_eq_false_iff_not] at this ⊢
      rintro rfl
      exact this hc
    rw [e, List.foldl_append, bytes_other _ t _ h1 rfl, List.foldl_cons]
    rw [show byteS [58] ⟨out, [] ++ qt false t, false || !t.isEmpty, false⟩ 58 = ⟨out ++ [qt false t], [], false, false⟩ from rfl, hard_fold L _ (fun x hx => h x (by simp [hx]))]
    simp
theorem hard_fields (L : List (List UInt8)) (h : ∀ t ∈ L, t.contains 58 = false) : fieldsL [58] [⟨hardT L, false, true, false⟩] = L.map (qt false) := by
  unfold fieldsL runS
  rw [List.foldl_cons, List.foldl_nil, show pieceS [58] ss0 ⟨hardT L, false, true, false⟩ = (hardT L).foldl (byteS [58]) ⟨[], [], false, false⟩ from rfl, hard_fold L [] h]
  simp [closeS]
theorem hardT_len : ∀ (L : List (List UInt8)), (∀ t ∈ L, t.length ≤ 20) → (hardT L).length ≤ L.length * 21
  | [], _ => by simp [hardT]
  | t :: L, h => by
    have h1 := hardT_len L (fun x hx => h x (by simp [hx]))
    have h2 := h t (by simp)
    have e : hardT (t :: L) = t ++ 58 :: hardT L := by simp [hardT]
    rw [e]
    simp
    omega
theorem take_hard {L : List (List UInt8)} {k : Nat} {x : List UInt8} (h : L[k]? = some x) : hardT (L.take (k + 1)) = hardT (L.take k) ++ x ++ [58] := by
  rw [List.take_add_one, h]
  simp [hardT]

set_option maxRecDepth 20000 in
set_option maxHeartbeats 4000000 in
theorem hard_walk (v : Value) (L : List (List UInt8)) (w : World) (h : TRow w v L) : Calls Try.prog 7 #[v] w fun e w' => e = .returned (.bool true) ∧ Below w.heap.size w w' := by
  have HAW : Hid (∀ W, Below w.heap.size w W → Calls Try.prog 9 #[] W fun e w' => e = .returned (.bool true) ∧ Below w.heap.size w w') := hide (fun W hW => (awake_any W).mono (fun e w' ⟨h1, h2⟩ => ⟨h1, hW.trans (h2.mono hW.size)⟩))
  have HRW := hide h
  obtain ⟨ad, cap, rfl, hp⟩ := h
  obtain ⟨N, hN⟩ : ∃ N, N = L.length := ⟨_, rfl⟩
  rw [← hN]
  have HN := hide hN
  have HP := hide hp
  clear hN hp
  by_cases h10 : N ≤ 10
  · go_enter Try.func7, Try.ntmps7
    go_wp2
    go_loop [3, 4] (fun s i => ∃ k : Nat, i = .int .i64 k ∧ k ≤ N ∧ s = .string (BA (hardT (L.take k))) ∧ Hid (∀ t ∈ L.take k, t.length ≤ 20 ∧ t.contains 58 = false)) (fun _ i => N - (intOf i).toNat)
    case atStart => exact ⟨0, rfl, Nat.zero_le _, rfl, hide (fun t ht => by simp at ht)⟩
    case round =>
      obtain ⟨k, rfl, hk, rfl, HT⟩ := hrel
      by_cases hlt : k < N
      · obtain ⟨x, hx⟩ : ∃ x, L[k]? = some x := ⟨_, List.getElem?_eq_getElem (by have := unhide HN; omega)⟩
        obtain ⟨g, o, rfl, _, c0⟩ := unhide HP k x hx
        have hk1 : (k : Int) < (N : Int) := by omega
        have HX := hide hx
        clear hx
        by_cases h1 : x.length ≤ 20
        · have HW := hide (within_any x 58 w (by omega))
          cases hb : hasB x 58 with
          | true =>
            rw [hb] at HW
            go_wp2_with fail
            refine (unhide HW).mono ?_
            rintro e w1 ⟨rfl, hw1⟩
            rw [show w1 = w from hw1]
            go_wp2_with fail
            refine (unhide HAW _ (Below.refl _ _)).mono ?_
            rintro e w2 ⟨rfl, b2⟩
            have HB2 := hide b2
            clear b2
            go_wp2
            go_ret
            exact ⟨rfl, unhide HB2⟩
          | false =>
            rw [hb] at HW
            have HBF := hide hb
            have HTL : Hid ((hardT (L.take k)).length ≤ 1000) := hide (by
              have h2 := hardT_len (L.take k) (fun t ht => (unhide HT t ht).1)
              have h3 := List.length_take_le k L
              have h4 : (L.take k).length * 21 ≤ 10 * 21 := Nat.mul_le_mul_right _ (by omega)
              omega)
            obtain ⟨S, hS⟩ : ∃ S, S = hardT (L.take k) := ⟨_, rfl⟩
            rw [← hS] at HTL ⊢
            have hsl := unhide HTL
            have HS := hide hS
            clear hS
            go_wp2_with fail
            refine (unhide HW).mono ?_
            rintro e w1 ⟨rfl, hw1⟩
            rw [show w1 = w from hw1]
            clear hw1
            go_wp2
            go_round
            case rel => exact ⟨k + 1, by go_num, by omega, by rw [take_hard (unhide HX), ← unhide HS]; rfl, hide (fun t ht => by
              rw [List.take_add_one, unhide HX] at ht
              rcases List.mem_append.1 ht with ht | ht
              · exact unhide HT t ht
              · simp at ht
                subst ht
                exact ⟨h1, unhide HBF⟩)⟩
            case measure => simp [intOf]; omega
        · go_wp2_with fail
          refine (unhide HAW _ (Below.refl _ _)).mono ?_
          rintro e w2 ⟨rfl, b2⟩
          have HB2 := hide b2
          clear b2
          go_wp2
          go_ret
          exact ⟨rfl, unhide HB2⟩
      · have hke : k = N := by omega
        have HTA : Hid (L.take k = L) := hide (List.take_of_length_le (by have := unhide HN; omega))
        have HTL : Hid ((hardT (L.take k)).length ≤ 1000) := hide (by
          have h2 := hardT_len (L.take k) (fun t ht => (unhide HT t ht).1)
          have h3 := List.length_take_le k L
          have h4 : (L.take k).length * 21 ≤ 10 * 21 := Nat.mul_le_mul_right _ (by omega)
          omega)
        rw [unhide HTA] at HTL HT ⊢
        have HF := hide (fields_one w ⟨hardT L, false, true, false⟩ [58] _ (hard_fields L (fun t ht => (unhide HT t ht).2)) (by decide) (by have := unhide HTL; simp only; omega))
        clear HTA hke
        go_wp2_with fail
        refine (unhide HF).mono ?_
        rintro e w1 ⟨u, rfl, b1, f1⟩
        have HRW1 := hide ((unhide HRW).below b1)
        have HFR := hide f1
        have HB1 := hide b1
        obtain ⟨fa, fc, hfu, _⟩ := id f1
        rw [List.length_map, ← unhide HN] at hfu
        subst hfu
        clear b1 f1
        go_wp2
        go_loopw [6] (fun i wr => ∃ j : Nat, i = .int .i64 j ∧ j ≤ N ∧ Hid (Below w1.heap.size w1 wr)) (fun i _ => N - (intOf i).toNat)
        case atStart => exact ⟨0, rfl, Nat.zero_le _, hide (Below.refl _ _)⟩
        case round =>
          obtain ⟨j, rfl, hj, HBR⟩ := hrel
          by_cases hjl : j < N
          · obtain ⟨x, hx⟩ : ∃ x, L[j]? = some x := ⟨_, List.getElem?_eq_getElem (by have := unhide HN; omega)⟩
            obtain ⟨ad', cap', he, hq⟩ := (unhide HRW1).below (unhide HBR)
            rw [← unhide HN] at he
            cases he
            obtain ⟨g, o, rfl, _, c0⟩ := hq j x hx
            obtain ⟨fa', fc', he, hq2⟩ := (unhide HFR).below (unhide HBR)
            rw [List.length_map, ← unhide HN] at he
            cases he
            obtain ⟨g2, q2, rfl, _, d0, _⟩ := hq2 j (qt false x) (by rw [List.getElem?_map, hx]; rfl)
            rw [ftx_qt] at d0
            have hj1 : (j : Int) < (N : Int) := by omega
            have hj0 : (0 : Int) ≤ (j : Int) := by omega
            clear hq hq2 hx
            go_wp2_with fail
            go_quiet (fail)
            go_wp2
            go_roundw
            case rel => exact ⟨j + 1, by go_num, by omega, hide ((unhide HBR).trans ((below_drew _ _).mono (unhide HBR).size))⟩
            case measure => simp [intOf]; omega
          · go_wp2_with fail
            refine (unhide HAW _ ((unhide HB1).trans ((unhide HBR).mono (unhide HB1).size))).mono ?_
            rintro e w2 ⟨rfl, b2⟩
            have HB2 := hide b2
            clear b2
            go_wp2
            go_ret
            exact ⟨rfl, unhide HB2⟩
  · go_enter Try.func7, Try.ntmps7
    go_wp2_with fail
    refine (unhide HAW _ (Below.refl _ _)).mono ?_
    rintro e w2 ⟨rfl, b2⟩
    have HB2 := hide b2
    clear b2
    go_wp2
    go_ret
    exact ⟨rfl, unhide HB2⟩

end Go.Proofs.Ytpljphbaibncjaa

/-
  BlocksOnce: no block is taken twice; free and taken blocks are all there are.
-/
import Derived.Test.YtfolnccpnncmiaaBOnceP
import Derived.Test.YtfolnccpnncmiaaBStart
import Derived.Deep.LoopGhost
namespace Go.Proofs.Ytfolnccpnncmiaa
open Go.RowKit

set_option maxRecDepth 20000 in
set_option maxHeartbeats 4000000 in
theorem once_walk (n : Int) (v : Value) (L : List Int) (w : World) (hn : I64 n) (hl : IRow w v L) : Calls Try.prog 5 #[.int .i64 n, v] w fun e w' => e = .returned (.bool true) ∧ Below w.heap.size w w' := by
  have HAW : Hid (∀ W, Below w.heap.size w W → Calls Try.prog 10 #[] W fun e w' => e = .returned (.bool true) ∧ Below w.heap.size w w') := hide (fun W hW => (awake_any W).mono (fun e w' ⟨h1, h2⟩ => ⟨h1, hW.trans (h2.mono hW.size)⟩))
  obtain ⟨ad, cap, rfl, hp⟩ := hl
  obtain ⟨K, hK⟩ : ∃ K, K = L.length := ⟨_, rfl⟩
  rw [← hK]
  unfold I64 at hn
  by_cases hok : 1 ≤ n ∧ n ≤ 100 ∧ K ≤ 100
  · obtain ⟨o1, o2, o3⟩ := hok
    obtain ⟨N, rfl⟩ : ∃ N : Nat, n = N := ⟨n.toNat, by omega⟩
    have hN : N ≤ 100 := by omega
    have HNW := hide (new_held N w w (Below.refl _ _) (by omega) (by omega))
    obtain ⟨cs, hcs, hT, mk⟩ := mk_takens (N + 1) (by omega)
    have mk1 : ∀ u : World, (Instr.makeSlice 46 (.int .i64 ((N : Int) + 1)) (.int .i64 ((N : Int) + 1))).run Try.prog u = .ok (.slice (some ⟨u.heap.size, 0, none⟩) (N + 1) (N + 1)) (u.alloc (.cells cs 4)) := mk
    have HT := hide (And.intro hT hcs)
    have HP := hide hp
    have HK := hide hK
    have p1 : ¬ (N : Int) < 1 := by omega
    have p2 : ¬ (100 : Int) < (N : Int) := by omega
    have p3 : ¬ (100 : Int) < (K : Int) := by omega
    clear mk hT hcs hp hK o1 o2 hn
    go_enter Try.func5, Try.ntmps5
    go_wp2_with fail
    refine (unhide HNW).mono ?_
    rintro e w1 ⟨p, g, h, rfl, k1, _⟩
    have OS := hide (once_new k1 (unhide HT).1 (unhide HT).2)
    clear k1 HNW HT
    have mk2 := mk1 w1
    clear mk1
    go_wp2_with fail
    obtain ⟨W2, hW2⟩ : ∃ W2, W2 = w1.alloc (.cells cs 4) := ⟨_, rfl⟩
    obtain ⟨t, ht⟩ : ∃ t, t = w1.heap.size := ⟨_, rfl⟩
    rw [← hW2, ← ht] at OS ⊢
    clear mk2 hW2 ht
    go_loopw [8, 9] (fun mv i wr => ∃ (k m : Nat) (l : BL), i = .int .i64 (k : Int) ∧ mv = .int .i64 (m : Int) ∧ k ≤ K ∧ Hid (OnceS w wr p g h t l N m)) (fun _ i _ => K - (intOf i).toNat)
    case atStart => exact ⟨0, 0, _, rfl, rfl, Nat.zero_le _, OS⟩
    case round =>
      obtain ⟨k, m, l, rfl, rfl, hk, HS⟩ := hrel
      have hmN : m ≤ N := by have := (unhide HS).many; omega
      by_cases hlt : k < K
      · obtain ⟨x, hx⟩ : ∃ x, L[k]? = some x := ⟨_, List.getElem?_eq_getElem (by have := unhide HK; omega)⟩
        obtain ⟨⟨ga, oa, rfl, hga, c0⟩, hx64⟩ := unhide HP k x hx
        have HC : Hid (∀ W, Below w.heap.size w W → W.cell? ⟨ga, oa + k, none⟩ = some (.int .i64 x)) := hide (fun W hb => (hb.cell (p := ⟨ga, _, none⟩) hga).trans c0)
        have c1 := unhide HC _ (unhide HS).held.2.1
        have hk1 : (k : Int) < (K : Int) := by omega
        have hk0 : (0 : Int) ≤ (k : Int) := by omega
        clear hx c0
        by_cases hx0 : x ≤ 0
        · by_cases hfr : freeAt l < l.length
          · obtain ⟨f, hf⟩ : ∃ f, freeAt l = f := ⟨_, rfl⟩
            have hfN : f < N := by have := (unhide HS).len; omega
            have HTK := hide (take_held (unhide HS).held (a := (f : Int) + 1) (e0 := 0) (l' := l.set f z64) (by unfold takeN; rw [if_pos hfr, hf]) (by unfold takeE; rw [if_pos hfr]) (by unfold takeL; rw [if_pos hfr, hf]))
            have HTC : Hid (∀ W, Own2 wr W g h → W.cell? ⟨t, f + 1, none⟩ = some (.bool false) ∧ W.frozen? ⟨t, f + 1, none⟩ = false) := hide (fun W ho => Tk.cell (i := f) (x := []) ((unhide HS).tk.own2 ho (unhide HS).tg (unhide HS).th) (by rw [← hf]; exact free_at hfr))
            have HF := hide (And.intro hf hfN)
            clear hf hfr
            go_wp2_with fail
            refine (unhide HTK).mono ?_
            rintro e w2 ⟨rfl, k2, ow⟩
            obtain ⟨d1, d2⟩ := unhide HTC w2 ow
            have HS2 := hide ((unhide HS).took (unhide HF).1 (unhide HF).2 k2 ow)
            have hfN1 : (f : Int) + 1 < (N : Int) + 1 := by omega
            have hfN2 : ¬ (N : Int) < (f : Int) + 1 := by omega
            clear k2 ow HTC HTK HS
            go_wp2_with fail
            refine (unhide HS2).free.mono ?_
            rintro e w3 ⟨rfl, hw3⟩
            rw [hw3]
            clear hw3
            have hmm : ((N : Int) - ((m + 1 : Nat) : Int)) = (N : Int) - ((m : Int) + 1) := by omega
            rw [hmm]
            go_wp2
            go_roundw
            case rel => exact ⟨k + 1, m + 1, _, by go_num, by go_num, by omega, HS2⟩
            case measure => simp [intOf]; omega
          · obtain rfl : m = N := by have := (unhide HS).many; have := free_none hfr; omega
            have HTK := hide (take_held (unhide HS).held (a := 0) (e0 := 20) (l' := l) (by unfold takeN; rw [if_neg hfr]) (by unfold takeE; rw [if_neg hfr]) (by unfold takeL; rw [if_neg hfr]))
            clear hfr
            go_wp2_with fail
            refine (unhide HTK).mono ?_
            rintro e w2 ⟨rfl, k2, ow⟩
            have HS2 := hide ((unhide HS).same k2 ow)
            clear k2 ow HTK HS
            go_wp2
            go_roundw
            case rel => exact ⟨k + 1, m, _, by go_num, rfl, by omega, HS2⟩
            case measure => simp [intOf]; omega
        · cases ht : tkn l x with
          | true =>
            obtain ⟨i, y, rfl, hi, hy, hne, e1, e2⟩ := tkn_some ht
            have hiN : i < N := by have := (unhide HS).len; omega
            have HGV := hide (give_held (unhide HS).held ((i : Int) + 1) hx64 (e0 := 0) (l' := l.set i []) (by unfold giveE; rw [ht]; rfl) (by unfold giveL; rw [ht, e1]; rfl))
            have HTC : Hid (∀ W, Own2 wr W g h → W.cell? ⟨t, i + 1, none⟩ = some (.bool true) ∧ W.frozen? ⟨t, i + 1, none⟩ = false) := hide (fun W ho => by
              have := Tk.cell ((unhide HS).tk.own2 ho (unhide HS).tg (unhide HS).th) hy
              rwa [show (!y.isEmpty) = true by cases y with
                | nil => exact absurd rfl hne
                | cons => rfl] at this)
            have HY := hide (And.intro hy hne)
            have g1 : (i : Int) + 1 ≤ (N : Int) := by omega
            clear ht e1 e2 hy hne hi
            go_wp2_with fail
            refine (unhide HGV).mono ?_
            rintro e w2 ⟨rfl, k2, ow⟩
            obtain ⟨d1, d2⟩ := unhide HTC w2 ow
            have c2 := unhide HC w2 k2.2.1
            obtain ⟨hs2, hm1⟩ := (unhide HS).gave (unhide HY).1 (unhide HY).2 k2 ow
            have HS2 := hide hs2
            have HC3 := hide (unhide HC _ hs2.held.2.1)
            clear k2 ow HTC HGV HS hs2
            go_wp2_with fail
            refine (unhide HS2).free.mono ?_
            rintro e w3 ⟨rfl, hw3⟩
            rw [hw3]
            clear hw3
            have hmm : ((N : Int) - ((m - 1 : Nat) : Int)) = (N : Int) - ((m : Int) - 1) := by omega
            rw [hmm]
            go_wp2
            go_roundw
            case rel => exact ⟨k + 1, m - 1, _, by go_num, by rw [show ((m - 1 : Nat) : Int) = (m : Int) - 1 by omega], by omega, HS2⟩
            case measure => simp [intOf]; omega
          | false =>
            have HGV := hide (give_held (unhide HS).held x hx64 (e0 := 23) (l' := l) (by unfold giveE; rw [ht]; rfl) (by unfold giveL; rw [ht]; rfl))
            by_cases hxN : x ≤ (N : Int)
            · obtain ⟨i, rfl⟩ : ∃ i : Nat, x = (i : Int) + 1 := ⟨(x - 1).toNat, by omega⟩
              obtain ⟨y, hy⟩ : ∃ y, l[i]? = some y := ⟨_, List.getElem?_eq_getElem (by have := (unhide HS).len; omega)⟩
              have HTC : Hid (∀ W, Own2 wr W g h → W.cell? ⟨t, i + 1, none⟩ = some (.bool false)) := hide (fun W ho => by
                have h1 := (Tk.cell ((unhide HS).tk.own2 ho (unhide HS).tg (unhide HS).th) hy).1
                rw [tkn_of hy] at ht
                rwa [ht] at h1)
              clear ht hy
              go_wp2_with fail
              refine (unhide HGV).mono ?_
              rintro e w2 ⟨rfl, k2, ow⟩
              have d1 := unhide HTC w2 ow
              have c2 := unhide HC w2 k2.2.1
              have HS2 := hide ((unhide HS).same k2 ow)
              clear k2 ow HTC HGV HS
              go_wp2_with fail
              refine (unhide HS2).free.mono ?_
              rintro e w3 ⟨rfl, hw3⟩
              rw [hw3]
              clear hw3
              go_wp2
              go_roundw
              case rel => exact ⟨k + 1, m, _, by go_num, rfl, by omega, HS2⟩
              case measure => simp [intOf]; omega
            · clear ht
              go_wp2_with fail
              refine (unhide HGV).mono ?_
              rintro e w2 ⟨rfl, k2, ow⟩
              have c2 := unhide HC w2 k2.2.1
              have HS2 := hide ((unhide HS).same k2 ow)
              clear k2 ow HGV HS
              go_wp2_with fail
              refine (unhide HS2).free.mono ?_
              rintro e w3 ⟨rfl, hw3⟩
              rw [hw3]
              clear hw3
              go_wp2
              go_roundw
              case rel => exact ⟨k + 1, m, _, by go_num, rfl, by omega, HS2⟩
              case measure => simp [intOf]; omega
      · have hk1 : ¬ (k : Int) < (K : Int) := by omega
        go_wp2_with fail
        refine (unhide HAW _ (unhide HS).held.2.1).mono ?_
        rintro e w2 ⟨rfl, b2⟩
        have HB2 := hide b2
        clear b2
        go_wp2
        go_ret
        exact ⟨rfl, unhide HB2⟩
  · have hbad : n < 1 ∨ (1 ≤ n ∧ 100 < n) ∨ (1 ≤ n ∧ n ≤ 100 ∧ (100 : Int) < (K : Int)) := by omega
    clear hok hK hp
    rcases hbad with h1 | ⟨h1, h2⟩ | ⟨h1, h2, h3⟩
    all_goals
      go_enter Try.func5, Try.ntmps5
      go_wp2_with fail
      refine (unhide HAW _ (Below.refl _ _)).mono ?_
      rintro e w2 ⟨rfl, b2⟩
      have HB2 := hide b2
      clear b2
      go_wp2
      go_ret
      exact ⟨rfl, unhide HB2⟩

end Go.Proofs.Ytfolnccpnncmiaa

/-
  ParseSimple: the law's own walk.
-/
import Derived.Test.YtnamineofpeahaaGreatDoorPaStx
import Derived.Test.YtnamineofpeahaaGreatDoorPaSmP
import Derived.Test.YtnamineofpeahaaGreatDoorPaQuote
import Derived.Test.YtnamineofpeahaaGreatDoorPaLit
namespace Go.Proofs.YtnamineofpeahaaGreatDoor
open Go.RowKit

theorem join_q (T Q : List UInt8) : Value.string (BA T ++ ⟨#[32]⟩ ++ BA Q) = .string (BA (T ++ 32 :: Q)) := by
 congr 1
 apply ByteArray.ext
 rw [ByteArray.data_append, ByteArray.data_append]
 show T.toArray ++ #[32] ++ Q.toArray = (T ++ 32 :: Q).toArray
 simp
set_option maxRecDepth 20000 in
set_option maxHeartbeats 4000000 in
theorem parsesimple_walk (v : Value) (L : List (List UInt8)) (w : World) (he : AEnv w) (hv : XRow w v L) (hmx : L.length ≤ maxLen) :
 Calls Tryz.prog 4 #[v] w fun e w' => e = .returned (.bool true) ∧ Below w.heap.size w w' := by
 obtain ⟨m, hm⟩ := he.pe.we.max
 have HE := hide he
 have HAW : Hid (∀ W, Below w.heap.size w W → Calls Tryz.prog 7 #[] W fun e w' => e = .returned (.bool true) ∧ Below w.heap.size w w') := hide (fun W hb => (awake6_any W (he.below hb)).mono (fun e w' h => ⟨h.1, hb.trans (h.2.mono hb.size)⟩))
 have HVB : Hid (∀ W, Below w.heap.size w W → XRow W v L) := hide (fun W hb => hv.below hb)
 obtain ⟨ad, cap, rfl, _⟩ := hv
 obtain ⟨n, hn⟩ : ∃ n, n = L.length := ⟨_, rfl⟩
 rw [← hn] at hmx ⊢
 unfold maxLen at hmx
 by_cases hc : n = 0 ∨ 20 < n
 ·have HB0 := hide (Below.refl w.heap.size w)
  rcases hc with rfl | hc
  all_goals
   try have hc2 : ((n : Int) == 0) = false := by rw [beq_eq_false_iff_ne]; omega
   try have hc3 : (20 : Int) < (n : Int) := by omega
   clear hn
   go_enter Tryz.func4, Tryz.ntmps4
   go_wp2_with fail
   refine (uh HAW _ (uh HB0)).mono ?_
   rintro e w1 ⟨rfl, b1⟩
   go_wp2
   go_ret
   exact ⟨rfl, b1⟩
 ·have hc2 : ((n : Int) == 0) = false := by rw [beq_eq_false_iff_ne]; omega
  have hc3 : ¬ (20 : Int) < (n : Int) := by omega
  have hn20 : n ≤ 20 := by omega
  have hn0 : L ≠ [] := fun e => by rw [e] at hn; simp at hn; omega
  have HN := hide hn
  have HN0 := hide hn0
  have HM : Hid (∀ W, Below w.heap.size w W → W.cell? ⟨1, 0, none⟩ = some (.int .i64 m)) := hide (fun W hb => (hb.cell (celltq hm)).trans hm)
  clear hn hn0 hc hm
  go_enter Tryz.func4, Tryz.ntmps4
  go_wp2_with fail
  go_loopw [3, 4] (fun sv i wr => ∃ (k : Nat) (T : List UInt8), i = .int .i64 (k : Int) ∧ sv = .string (BA T) ∧ k ≤ n ∧ T.length ≤ 163 * k ∧ Hid (T = srcQ (L.take k) ∧ (∀ t ∈ L.take k, t.length ≤ 40) ∧ Below w.heap.size w wr)) (fun _ i _ => n - (intOf i).toNat)
  case atStart => exact ⟨0, [], rfl, rfl, Nat.zero_le _, by simp, hide ⟨rfl, fun t h => by simp at h, Below.refl _ _⟩⟩
  case round =>
   obtain ⟨k, T, rfl, rfl, hk, hT, HH⟩ := hrel
   by_cases hkn : k < n
   ·obtain ⟨x, hx⟩ : ∃ x, L[k]? = some x := ⟨L[k]'(by rw [← uh HN]; exact hkn), List.getElem?_eq_getElem _⟩
    obtain ⟨ad', cap', e1, hel⟩ := uh HVB _ (uh HH).2.2
    obtain ⟨g, o, rfl, hg, c0⟩ := hel k x hx
    cases e1
    have hki : (k : Int) < (n : Int) := by omega
    have HX := hide hx
    have hsz : (BA x).size = x.length := by simp
    clear hel hx
    by_cases hxl : 40 < x.length
    ·have hxi : (40 : Int) < ((BA x).size : Int) := by rw [hsz]; omega
     clear hsz
     go_wp2_with fail
     refine (uh HAW _ (uh HH).2.2).mono ?_
     rintro e w1 ⟨rfl, b1⟩
     go_wp2
     go_ret
     exact ⟨rfl, b1⟩
    ·have hxi : ¬ (40 : Int) < ((BA x).size : Int) := by rw [hsz]; omega
     have HQ := hide (quote_any (BA x) wr m (uh HM _ (uh HH).2.2) (by rw [hsz]; omega))
     have hql := quote_len x
     obtain ⟨Q, hQ⟩ : ∃ Q, Q = quoteL x := ⟨_, rfl⟩
     rw [show (⟨(quoteL (BA x).data.toList).toArray⟩ : ByteArray) = BA Q by rw [hQ]; simp; rfl] at HQ
     rw [← hQ] at hql
     have HQE := hide hQ
     clear hsz hQ
     go_wp2_with fail
     refine (uh HQ).mono ?_
     rintro e w1 ⟨rfl, b1⟩
     have B1 := hide ((uh HH).2.2.trans (b1.mono (uh HH).2.2.size))
     clear b1 HQ
     go_wp2_with fail
     go_roundw
     case rel => exact ⟨k + 1, T ++ 32 :: Q, by go_num, join_q T Q, by omega, by simp; omega, hide ⟨by rw [(uh HH).1, uh HQE, List.take_add_one, uh HX]; exact (srcQ_snoc _ _).symm, fun t ht => by
      rw [List.take_add_one, uh HX] at ht
      rcases List.mem_append.1 ht with ht | ht
      ·exact (uh HH).2.1 t ht
      ·rw [Option.mem_toList] at ht
       injection ht with ht
       rw [← ht]
       omega, uh B1⟩⟩
     case measure => simp [intOf]; omega
   ·obtain ⟨wA, hwA⟩ : ∃ z, z = wr := ⟨_, rfl⟩
    subst hwA
    have hki : ¬ (k : Int) < (n : Int) := by omega
    have hTE : T = srcQ L := by rw [(uh HH).1, List.take_of_length_le (by rw [← uh HN]; omega)]
    have h40 : ∀ t ∈ L, t.length ≤ 40 := fun t ht => (uh HH).2.1 t (by rw [List.take_of_length_le (by rw [← uh HN]; omega)]; exact ht)
    have HP := parse_env T wA (by omega) ((uh HE).below (uh HH).2.2)
    rw [show prsL T = ([.mk 1 false [] (L.map fun t => [litP t true]) [] [] [] false []], 0, 0) by rw [hTE]; exact prsL_q (uh HN0) h40 (by rw [← uh HN]; omega)] at HP
    have HP := hide HP
    clear hTE
    have H40 := hide h40
    clear h40
    go_wp2_with fail
    refine (uh HP).mono ?_
    rintro e w2 ⟨ad2, n2, cap2, rfl, h2⟩
    obtain ⟨g2, cp, e2, hA2, hel2⟩ := (uh h2).2.cmd (by simp)
    cases e2
    obtain ⟨cs, hcm, hcell⟩ := hel2 0 _ rfl
    obtain ⟨vl, vw, vr, vc, vi, rfl, r1, r2, r3, r4, r5⟩ := hcm.rows
    obtain ⟨al, cl, rfl⟩ := r1.slice
    obtain ⟨aw, cw, hvw⟩ := r2.slice
    obtain ⟨ar, cr, rfl⟩ := r3.slice
    rw [List.length_map, ← uh HN] at hvw
    have d0 : w2.cell? ⟨g2, 0, none⟩ = some (.int .i64 1) := by simpa using hcell 0 _ rfl
    have d2 : w2.cell? ⟨g2, 2, none⟩ = some (.slice al 0 cl) := by simpa using hcell 2 _ rfl
    have d3 : w2.cell? ⟨g2, 3, none⟩ = some (.slice aw n cw) := by rw [← hvw]; simpa using hcell 3 _ rfl
    have d4 : w2.cell? ⟨g2, 4, none⟩ = some (.slice ar 0 cr) := by simpa using hcell 4 _ rfl
    have B2 : Hid (Below w.heap.size w w2 ∧ g2 < w2.heap.size) := hide ⟨(uh HH).2.2.trans ((uh h2).1.mono (uh HH).2.2.size), hA2.2⟩
    have HWD : Hid (∀ W, Below w2.heap.size w2 W → ∀ q x, L[q]? = some x → ∃ (h : Nat) (va : Option Addr) (vn vc : Nat), aw = some ⟨h, 0, none⟩ ∧ W.cell? ⟨h, q, none⟩ = some (.slice va vn vc) ∧ Calls Tryz.prog 11 #[.slice va vn vc] W fun e w' => e = .returned (.tuple #[.string (BA x), .bool true]) ∧ Below W.heap.size W w') := hide (fun W hb q x hx => by
     have hq : (L.map fun t => [litP t true])[q]? = some [litP x true] := by rw [List.getElem?_map, hx]; rfl
     obtain ⟨h, cp2, e3, hh, hel3⟩ := r2.el (by rw [List.length_map]; have := (List.getElem?_eq_some_iff.1 hx).1; omega)
     rw [hvw] at e3
     injection e3 with e3
     obtain ⟨cs3, ⟨v3, rfl, hw3⟩, hc3⟩ := hel3 q _ hq
     have hw4 := hw3.kept (fun j hj => hb.block j hj.2) (fun j hj => hj)
     obtain ⟨va, vc3, rfl, _⟩ := hw3.len
     refine ⟨h, va, _, vc3, e3, (hb.cell hh.2).trans (by simpa [Kw] using hc3 0 _ rfl), ?_⟩
     refine (literal_any [litP x true] _ _ W hw4 (fun j hj => Nat.lt_of_lt_of_le hj.2 hb.size) (by have := uh H40 x (List.mem_of_getElem? hx); rw [List.flatMap_cons, List.flatMap_nil, List.append_nil]; show x.length ≤ 1000; omega)).mono ?_
     rintro e w' ⟨rfl, h5⟩
     exact ⟨by rw [show litR [litP x true] = (x, true) by simp [litR, litP]; rfl], h5⟩)
    clear h2 hel2 hcm hcell r1 r2 r3 r4 r5 hvw HP hA2
    go_wp2_with fail
    go_loopw [8] (fun i wr2 => ∃ q : Nat, i = .int .i64 (q : Int) ∧ q ≤ n ∧ Hid (Below w2.heap.size w2 wr2)) (fun i _ => n - (intOf i).toNat)
    case atStart => exact ⟨0, rfl, Nat.zero_le _, hide (Below.refl _ _)⟩
    case round =>
     obtain ⟨q, rfl, hq, HC⟩ := hrel
     have HCB := hide ((uh B2).1.trans ((uh HC).mono (uh B2).1.size))
     by_cases hqn : q < n
     ·obtain ⟨x, hx⟩ : ∃ x, L[q]? = some x := ⟨L[q]'(by rw [← uh HN]; exact hqn), List.getElem?_eq_getElem _⟩
      obtain ⟨ad', cap', e1, hel⟩ := uh HVB _ (uh HCB)
      obtain ⟨g, o, rfl, hg, c0⟩ := hel q x hx
      cases e1
      obtain ⟨h, va, vn, vc, rfl, i0, hlit⟩ := uh HWD wr (uh HC) q x hx
      have f3 : wr.cell? ⟨g2, 3, none⟩ = some (.slice (some ⟨h, 0, none⟩) n cw) := ((uh HC).cell (uh B2).2).trans d3
      have HLT := hide hlit
      have HG := hide hg
      have hqi : (q : Int) < (n : Int) := by omega
      clear hel hx hlit hg d0 d2 d3 d4 HWD
      go_wp2_with fail
      refine (uh HLT).mono ?_
      rintro e w3 ⟨rfl, b3⟩
      have c3 : w3.cell? ⟨g, o + q, none⟩ = some (.string (BA x)) := (b3.cell (uh HG)).trans c0
      have B3 := hide ((uh HC).trans (b3.mono (uh HC).size))
      clear b3 c0 f3 i0
      go_wp2_with fail
      go_roundw
      case rel => exact ⟨q + 1, by go_num, by omega, B3⟩
      case measure => simp [intOf]; omega
     ·have hqi : ¬ (q : Int) < (n : Int) := by omega
      clear HWD d0 d2 d3 d4
      go_wp2_with fail
      refine (uh HAW _ (uh HCB)).mono ?_
      rintro e w3 ⟨rfl, b3⟩
      go_wp2
      go_ret
      exact ⟨rfl, b3⟩

end Go.Proofs.YtnamineofpeahaaGreatDoor

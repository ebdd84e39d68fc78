/-
  PipePasses: the law's walk.
-/
import Derived.Test.YtiaenfnjjlpknaaPpPass
import Derived.Deep.DeepCutAuto
namespace Go.Proofs.Ytiaenfnjjlpknaa
open Go.RowKit

theorem Pas.more {w W : World} {p : Nat} {inn out s : List UInt8} {k : Nat} (H : Pas w W p inn out s k) : Pas w W p inn out s (k + 1) := ⟨H.hp, H.io, by have := H.few; omega⟩
theorem pas_100 (s : List UInt8) (h : s.length ≤ 64) : rdT ⟨s, 1, 0⟩ 100 = s ∧ rdE ⟨s, 1, 0⟩ 100 = 0 ∧ rdS ⟨s, 1, 0⟩ 100 = ⟨[], 1, 0⟩ := by
  have e : rdE ⟨s, 1, 0⟩ 100 = 0 := by
    unfold rdE
    rw [if_neg (show ¬ 1 = 0 by decide), if_neg (show ¬ (100 : Int) < 0 by decide), if_neg (fun h => absurd h.2.1 (Nat.lt_irrefl 0))]
  refine ⟨?_, e, ?_⟩
  · unfold rdT
    rw [if_pos e]
    exact List.take_of_length_le (by show s.length ≤ 100; omega)
  · unfold rdS
    rw [if_pos e]
    show (⟨List.drop 100 s, 1, 0⟩ : Pp) = _
    rw [List.drop_of_length_le (by omega)]
set_option maxRecDepth 20000 in
set_option maxHeartbeats 4000000 in
theorem passes_walk (v : Value) (L : List Op15) (w : World) (hl : ORow w v L) : Calls Try.prog 4 #[v] w fun e w' => e = .returned (.bool true) ∧ Below w.heap.size w w' := by
  have HAW : Hid (∀ W, Below w.heap.size w W → Calls Try.prog 9 #[] W fun e w' => e = .returned (.bool true) ∧ Below w.heap.size w w') := hide (fun W hW => (awake_any W).mono (fun e w' ⟨h1, h2⟩ => ⟨h1, hW.trans (h2.mono hW.size)⟩))
  obtain ⟨ad, cap, rfl, hp⟩ := hl
  obtain ⟨K, hK⟩ : ∃ K, K = L.length := ⟨_, rfl⟩
  rw [← hK]
  have HP := hide hp
  have HK := hide hK
  have HNW := hide (new_hp (w := w) (W := w) (Below.refl _ _))
  clear hp hK
  go_enter Try.func4, Try.ntmps4
  go_wp2_with fail
  refine (unhide HNW).mono ?_
  rintro e w1 ⟨p, rfl, k1, _⟩
  have K1 : Hid (Pas w w1 p [] [] [] 0) := hide ⟨k1, rfl, Nat.le_refl _⟩
  clear k1 HNW
  go_wp2_with fail
  go_loopw [4, 5, 6] (fun inn out i wr => ∃ (k : Nat) (I O s : List UInt8), inn = .string (BA I) ∧ out = .string (BA O) ∧ i = .int .i64 (k : Int) ∧ k ≤ 200 ∧ Hid (Pas w wr p I O s k)) (fun _ _ i _ => K - (intOf i).toNat)
  case atStart => exact ⟨0, [], [], [], rfl, rfl, rfl, Nat.zero_le _, K1⟩
  case round =>
    obtain ⟨k, I, O, s, rfl, rfl, rfl, hk, HD⟩ := hrel
    by_cases hlt : k < K ∧ k < 200
    · obtain ⟨x, hx⟩ : ∃ x, L[k]? = some x := ⟨_, List.getElem?_eq_getElem (by have := unhide HK; omega)⟩
      obtain ⟨⟨ga, oa, rfl, hga, hc⟩, hxo⟩ := unhide HP k x hx
      obtain ⟨c0, c1, c2⟩ : OCell wr ga (oa + k * 3) x := by
        have hb := (unhide HD).hp.bel
        exact ⟨(hb.cell (p := ⟨ga, _, none⟩) hga).trans hc.1, (hb.cell (p := ⟨ga, _, none⟩) hga).trans hc.2.1, (hb.cell (p := ⟨ga, _, none⟩) hga).trans hc.2.2⟩
      obtain ⟨ask, nn, dd⟩ := x
      obtain ⟨x1, x2⟩ := hxo
      simp only at c0 c1 c2 x1 x2
      have hk1 : (k : Int) < (K : Int) := by omega
      have hk2 : (k : Int) < 200 := by omega
      have hk0 : (0 : Int) ≤ (k : Int) := by omega
      obtain ⟨D, hD⟩ : ∃ D, D = BA dd := ⟨_, rfl⟩
      obtain ⟨dl, hdl⟩ : ∃ dl, dl = dd.length := ⟨_, rfl⟩
      have hDs : D.size = dl := by rw [hD, hdl]; rfl
      obtain ⟨SI, hSI⟩ : ∃ SI, SI = BA I := ⟨_, rfl⟩
      obtain ⟨SO, hSO⟩ : ∃ SO, SO = BA O := ⟨_, rfl⟩
      rw [← hD] at c2
      rw [← hSI, ← hSO]
      have HI := hide hSI
      have HO := hide hSO
      have HDD := hide hD
      have HDL := hide hdl
      clear hx hc hga hSI hSO hD hdl
      go_upto_region 10 with fail
      obtain ⟨WA, hWA⟩ : ∃ WA, WA = wr.alloc (Obj.cells #[Value.int IntKind.i64 ask, Value.int IntKind.i64 nn, Value.string D] 28) := ⟨_, rfl⟩
      obtain ⟨nb, hnb⟩ : ∃ nb, nb = wr.heap.size := ⟨_, rfl⟩
      have PA : Hid (Pas w WA p I O s k ∧ OB WA nb ⟨ask, nn, dd⟩) := hide (by
        rw [hWA, hnb, unhide HDD]
        exact ⟨(unhide HD).below ((Below.refl _ _).alloc (Nat.le_refl _) _), Blk.new _ _ _⟩)
      rw [← hWA, ← hnb]
      clear hWA hnb HD c0 c1 c2
      obtain ⟨e0, e1, e2⟩ := (unhide PA).2.cells
      simp only at e0 e1 e2
      rw [← unhide HDD] at e2
      by_cases hd : dl ≤ 500
      · have hd1 : ¬ (500 : Int) < (dl : Int) := by omega
        by_cases h0 : ask = 0
        · subst h0
          go_wp2_with fail
          refine ((unhide PA).1.read nn).mono ?_
          rintro e w3 ⟨T, s', E, rfl, hE, hT, P3⟩
          have HT := hide hT
          have hsum : (Op.stringOp .add SO (BA T)).run Try.prog w3 = .ok (.string (BA (O ++ T))) w3 := by
            rw [unhide HO]
            refine sum_run O T ?_ w3
            have h1 := congrArg List.length (unhide P3).io
            have h2 := (unhide P3).few
            rw [List.length_append, List.length_append] at h1
            omega
          have HLN := hide (unhide P3).len
          obtain ⟨sl, hsl⟩ : ∃ sl, sl = s'.length := ⟨_, rfl⟩
          rw [← hsl] at HLN
          obtain ⟨OT, hOT⟩ : ∃ OT, OT = BA (O ++ T) := ⟨_, rfl⟩
          rw [← hOT] at hsum
          have hs64 : ¬ (64 : Int) < (sl : Int) := by
            have h3 : s'.length ≤ 64 := (unhide P3).hp.at'.fit.few
            omega
          have hwr : IntKind.i64.wrap ((SI.size : Int) - (OT.size : Int)) = (sl : Int) := by
            have h1 := congrArg List.length (unhide P3).io
            have h2 := (unhide P3).few
            have e3 : SI.size = I.length := by rw [unhide HI]; rfl
            have e4 : OT.size = (O ++ T).length := by rw [hOT]; rfl
            rw [List.length_append] at h1
            rw [e3, e4, IntKind.wrap_i64]
            omega
          have hEE : E = 0 ∨ (E = 1 ∧ BA T = ⟨#[]⟩) ∨ (E = 30 ∧ BA T = ⟨#[]⟩ ∧ SI = SO) := by
            rcases hE with h | ⟨h, rfl⟩ | ⟨h, rfl, h5⟩
            · exact .inl h
            · exact .inr (.inl ⟨h, rfl⟩)
            · exact .inr (.inr ⟨h, rfl, by rw [unhide HI, unhide HO, h5]⟩)
          obtain ⟨BT, hBT⟩ : ∃ BT, BT = BA T := ⟨_, rfl⟩
          rw [← hBT] at hEE hsum
          rw [← hBT]
          have HOT := hide hOT
          clear hE hT hBT hOT hsl PA e0 e1 e2
          rcases hEE with rfl | ⟨rfl, rfl⟩ | ⟨rfl, rfl, rfl⟩
          all_goals
            go_wp2_with fail
            refine (unhide HLN).mono ?_
            rintro e w8 ⟨rfl, hw8⟩
            rw [show w8 = _ from hw8]
            clear hw8
            go_wp2_with fail
            refine (unhide HLN).mono ?_
            rintro e w8 ⟨rfl, hw8⟩
            rw [show w8 = _ from hw8]
            clear hw8
            go_wp2
            go_roundw
            case rel => exact ⟨k + 1, I, O ++ T, s', by rw [unhide HI], by rw [unhide HOT], by go_num, by omega, hide (unhide P3).more⟩
            case measure => simp [intOf]; omega
        · have f0 : (ask == 0) = false := by simpa using h0
          clear h0
          go_wp2_with fail
          rw [unhide HDD]
          refine ((unhide PA).1.write (unhide PA).2 dd).mono ?_
          rintro e w3 ⟨N, s', E, rfl, hE, hN1, hN2, P3, O3⟩
          rw [← unhide HDD]
          clear e0 e1 e2 PA
          obtain ⟨e0, e1, e2⟩ := (unhide O3).cells
          simp only at e0 e1 e2
          rw [← unhide HDD] at e2
          have hsum : (Op.stringOp .add SI (BA (dd.take N))).run Try.prog w3 = .ok (.string (BA (I ++ dd.take N))) w3 := by
            rw [unhide HI]
            refine sum_run I (dd.take N) ?_ w3
            have h2 := (unhide P3).few
            rw [List.length_append] at h2
            omega
          have HLN := hide (unhide P3).len
          have hex : D.extract 0 N = BA (dd.take N) := by rw [unhide HDD]; exact ext_take dd N
          obtain ⟨IT, hIT⟩ : ∃ IT, IT = BA (I ++ dd.take N) := ⟨_, rfl⟩
          rw [← hIT] at hsum
          have hs64 : s'.length ≤ 64 := (unhide P3).hp.at'.fit.few
          have hwr : IntKind.i64.wrap ((IT.size : Int) - (SO.size : Int)) = (s'.length : Int) := by
            have h1 := congrArg List.length (unhide P3).io
            have h2 := (unhide P3).few
            have e3 : IT.size = (I ++ dd.take N).length := by rw [hIT]; rfl
            have e4 : SO.size = O.length := by rw [unhide HO]; rfl
            have h4 : (O ++ s').length = O.length + s'.length := List.length_append
            rw [e3, e4, IntKind.wrap_i64]
            omega
          have hN3 : ¬ (N : Int) < 0 := by omega
          have hN4 : ¬ (dl : Int) < (N : Int) := by have := unhide HDL; omega
          have hN5 : N ≤ D.size := by have := unhide HDL; omega
          have HIT := hide hIT
          obtain ⟨T, hT⟩ : ∃ T, T = BA (dd.take N) := ⟨_, rfl⟩
          rw [← hT] at hsum hex
          have hEE : E = 0 ∨ (E = 30 ∧ N = 0 ∧ s'.length = 64 ∧ T = ByteArray.empty) := by
            rcases hE with h | ⟨h, h1, h2⟩
            · exact .inl h
            · exact .inr ⟨h, h1, h2, by rw [hT, h1, List.take_zero]; rfl⟩
          obtain ⟨sl, hsl⟩ : ∃ sl, sl = s'.length := ⟨_, rfl⟩
          rw [← hsl] at HLN hs64 hwr hEE
          have hs65 : ¬ (64 : Int) < (sl : Int) := by omega
          clear hE hT hIT hsl hN1 hN2 hs64
          rcases hEE with rfl | ⟨rfl, rfl, rfl, rfl⟩
          · go_wp2_with fail
            refine (unhide HLN).mono ?_
            rintro e w8 ⟨rfl, hw8⟩
            rw [show w8 = _ from hw8]
            clear hw8
            go_wp2_with fail
            refine (unhide HLN).mono ?_
            rintro e w8 ⟨rfl, hw8⟩
            rw [show w8 = _ from hw8]
            clear hw8
            go_wp2
            go_roundw
            case rel => exact ⟨k + 1, I ++ dd.take N, O, s', by rw [unhide HIT], by rw [unhide HO], by go_num, by omega, P3⟩
            case measure => simp [intOf]; omega
          · go_wp2_with fail
            refine (unhide HLN).mono ?_
            rintro e w8 ⟨rfl, hw8⟩
            rw [show w8 = _ from hw8]
            clear hw8
            go_wp2_with fail
            refine (unhide HLN).mono ?_
            rintro e w8 ⟨rfl, hw8⟩
            rw [show w8 = _ from hw8]
            clear hw8
            go_wp2_with fail
            refine (unhide HLN).mono ?_
            rintro e w8 ⟨rfl, hw8⟩
            rw [show w8 = _ from hw8]
            clear hw8
            go_wp2
            go_roundw
            case rel => exact ⟨k + 1, I ++ dd.take 0, O, s', by rw [unhide HIT], by rw [unhide HO], by go_num, by omega, P3⟩
            case measure => simp [intOf]; omega
      · have hd1 : (500 : Int) < (dl : Int) := by omega
        go_wp2_with fail
        refine (unhide HAW _ (unhide PA).1.hp.bel).mono ?_
        rintro e w3 ⟨rfl, b3⟩
        have HB3 := hide b3
        clear b3
        go_wp2
        go_ret
        exact ⟨rfl, unhide HB3⟩
    · have hcs : ¬ (k : Int) < (K : Int) ∨ ((k : Int) < (K : Int) ∧ ¬ (k : Int) < 200) := by omega
      have hf : s.length ≤ 64 := (unhide HD).hp.at'.fit.few
      obtain ⟨q1, q2, q3⟩ := pas_100 s hf
      obtain ⟨SI, hSI⟩ : ∃ SI, SI = BA I := ⟨_, rfl⟩
      have hsum : ∀ W : World, (Op.stringOp .add (BA O) (BA s)).run Try.prog W = .ok (.string SI) W := fun W => by
        rw [hSI, (unhide HD).io]
        refine sum_run O s ?_ W
        have h1 := congrArg List.length (unhide HD).io
        have h2 := (unhide HD).few
        rw [List.length_append] at h1
        omega
      have HQ1 := hide q1
      have HQ2 := hide q2
      have HQ3 := hide q3
      have HSUM := hide hsum
      rw [← hSI]
      clear hf q1 q2 q3 hSI hlt hsum
      rcases hcs with hk1 | ⟨hk1, hk2⟩
      all_goals
        go_wp2_with fail
        refine (leave_hp (unhide HD).hp true (E := 0) (y := ⟨s, 1, 0⟩) rfl rfl).mono ?_
        rintro e w3 ⟨rfl, k3⟩
        have K3 := hide k3
        clear k3
        go_wp2_with fail
        refine (read_hp (unhide K3) 100 (unhide HQ1) (unhide HQ2) (unhide HQ3)).mono ?_
        rintro e w4 ⟨rfl, k4⟩
        have K4 := hide k4
        have hsum := unhide HSUM w4
        clear k4 K3
        go_wp2_with fail
        refine (read_hp (unhide K4) 1 (T := []) (E := 0) (y := ⟨[], 1, 0⟩) (by kernel_rfl) (by kernel_rfl) (by kernel_rfl)).mono ?_
        rintro e w5 ⟨rfl, k5⟩
        rw [show BA [] = ⟨#[]⟩ from rfl]
        have K5 := hide k5.bel
        clear k5 K4
        go_wp2_with fail
        refine (unhide HAW _ (unhide K5)).mono ?_
        rintro e w6 ⟨rfl, b6⟩
        have HB6 := hide b6
        clear b6
        go_wp2
        go_ret
        exact ⟨rfl, unhide HB6⟩

end Go.Proofs.Ytiaenfnjjlpknaa

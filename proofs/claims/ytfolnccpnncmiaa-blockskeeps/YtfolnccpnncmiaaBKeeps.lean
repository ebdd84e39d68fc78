/-
  BlocksKeeps: what was written is read; no other block changes by it.
-/
import Derived.Test.YtfolnccpnncmiaaBFresh
import Derived.Test.YtfolnccpnncmiaaBKeepP
import Derived.Test.YtfolnccpnncmiaaBTxt
import Derived.Test.YtfolnccpnncmiaaBKeepB
import Derived.Deep.LoopGhost
import Derived.Deep.DeepCutAuto
import Derived.Deep.CutRange
namespace Go.Proofs.Ytfolnccpnncmiaa
open Go.RowKit

theorem u8_nat {k : Nat} (h : k ≤ 255) : ((byt k).toNat : Int) = (k : Int) := by
  have : (byt k).toNat = k := by unfold byt; simp [UInt8.toNat_ofNat']; omega
  omega
/-- 'string([]byte{byte(i), 1, 2})' -/
theorem three_run (k : Nat) (hk : k + 1 ≤ 255) (u : World) : (convert 43 9 (.slice (some ⟨u.heap.size, 0, none⟩) 3 3)).run Try.prog (u.alloc (.cells #[.int .u8 ((k : Int) + 1), .int .u8 1, .int .u8 2] 5)) = .ok (.string (BA [byt (k + 1), 1, 2])) (u.alloc (.cells #[.int .u8 ((k : Int) + 1), .int .u8 1, .int .u8 2] 5)) := by
  refine run_convert_bytes_back (P := Try.prog) _ 43 9 5 ⟨u.heap.size, 0, none⟩ 3 [byt (k + 1), 1, 2] (by kernel_rfl) (by kernel_rfl) (by kernel_rfl) (fun j hj => ?_)
  rw [add_o, Nat.zero_add]
  have hb := Blk.new u 5 #[.int .u8 ((k : Int) + 1), .int .u8 1, .int .u8 2]
  match j, hj with
  | 0, _ => rw [hb.cell 0 rfl, List.getElem_cons_zero, u8_nat hk]; rfl
  | 1, _ => rw [hb.cell 1 rfl]; rfl
  | 2, _ => rw [hb.cell 2 rfl]; rfl

theorem three_at (k : Nat) (hk : k + 1 ≤ 255) (U : World) (g : Nat) (hb : Blk U g 5 #[.int .u8 ((k : Int) + 1), .int .u8 1, .int .u8 2]) : (convert 43 9 (.slice (some ⟨g, 0, none⟩) 3 3)).run Try.prog U = .ok (.string (BA [byt (k + 1), 1, 2])) U := by
  refine run_convert_bytes_back (P := Try.prog) _ 43 9 5 ⟨g, 0, none⟩ 3 [byt (k + 1), 1, 2] (by kernel_rfl) (by kernel_rfl) (by kernel_rfl) (fun j hj => ?_)
  rw [add_o, Nat.zero_add]
  match j, hj with
  | 0, _ => rw [hb.cell 0 rfl, List.getElem_cons_zero, u8_nat hk]; rfl
  | 1, _ => rw [hb.cell 1 rfl]; rfl
  | 2, _ => rw [hb.cell 2 rfl]; rfl
def CvAt (g n : Nat) (l : List UInt8) (U : World) : Prop := (convert 43 9 (.slice (some ⟨g, 0, none⟩) n n)).run Try.prog U = .ok (.string (BA l)) U
theorem three_all (k : Nat) (hk : k + 1 ≤ 255) (U : World) (g : Nat) (hb : Blk U g 5 #[.int .u8 ((k : Int) + 1), .int .u8 1, .int .u8 2]) : CvAt g 3 [byt (k + 1), 1, 2] U ∧ CvAt g 3 [byt (k + 1), 1, 2] U.drew ∧ ∀ n, CvAt g 3 [byt (k + 1), 1, 2] (U.drewN n) :=
  ⟨three_at k hk U g hb, three_at k hk U.drew g hb, fun n => three_at k hk (U.drewN n) g hb⟩
theorem zeros_all {cs : Array Value} {n : Nat} {l : List UInt8} (h : ∀ (U : World) (g : Nat), Blk U g 5 cs → (convert 43 9 (.slice (some ⟨g, 0, none⟩) n n)).run Try.prog U = .ok (.string (BA l)) U) (U : World) (g : Nat) (hb : Blk U g 5 cs) : CvAt g n l U ∧ CvAt g n l U.drew ∧ ∀ m, CvAt g n l (U.drewN m) :=
  ⟨h U g hb, h U.drew g hb, fun m => h (U.drewN m) g hb⟩
theorem zeros_at (n : Nat) (hn : n ≤ 4096) : ∃ cs : Array Value, (∀ u : World, (Instr.makeSlice 43 (.int .i64 (n : Int)) (.int .i64 (n : Int))).run Try.prog u = .ok (.slice (some ⟨u.heap.size, 0, none⟩) n n) (u.alloc (.cells cs 5))) ∧ ∀ (U : World) (g : Nat), Blk U g 5 cs → (convert 43 9 (.slice (some ⟨g, 0, none⟩) n n)).run Try.prog U = .ok (.string (BA (List.replicate n 0))) U := by
  obtain ⟨i, hi, hz, hs, hb⟩ := info2 (t := 5) (z := some (.int .u8 0)) (a := 1) (c := 1) (by kernel_rfl)
  refine ⟨madeCells #[.int .u8 0] n, fun u => ?_, fun U g hb => ?_⟩
  · have := run_make (P := Try.prog) u 43 5 i (.int .u8 0) (by kernel_rfl) hi hz .i64 .i64 n n (by omega) (Int.le_refl _) (by rw [hb]; omega) (by omega)
    rw [hs] at this
    simpa [Value.cells] using this
  · have := run_convert_bytes_back (P := Try.prog) U 43 9 5 ⟨g, 0, none⟩ n (List.replicate n 0) (by kernel_rfl) (by kernel_rfl) (by kernel_rfl) (fun j hj => by
      rw [List.length_replicate] at hj
      rw [add_o, Nat.zero_add]
      have h1 := hb.cell j (made_at _ _ _ hj (v := .int .u8 0) (fun m hm => by
        match m, hm with
        | 0, _ => rfl) (by decide))
      rw [h1, List.getElem_replicate]
      rfl)
    rwa [List.length_replicate] at this
set_option maxRecDepth 20000 in
set_option maxHeartbeats 4000000 in
theorem keeps_walk (n m : Int) (o : Op11) (w : World) (hn : I64 n) (hm : I64 m) (ho : o.ok) : Calls Try.prog 4 #[.int .i64 n, .int .i64 m, .agg #[.int .i64 o.ask, .int .i64 o.b, .int .i64 o.at', .int .i64 o.n, .string (BA o.data)]] w fun e w' => e = .returned (.bool true) ∧ Below w.heap.size w w' := by
  have HAW : Hid (∀ W, Below w.heap.size w W → Calls Try.prog 10 #[] W fun e w' => e = .returned (.bool true) ∧ Below w.heap.size w w') := hide (fun W hW => (awake_any W).mono (fun e w' ⟨h1, h2⟩ => ⟨h1, hW.trans (h2.mono hW.size)⟩))
  obtain ⟨ask, b, a, z, d⟩ := o
  obtain ⟨_, hb, ha, _⟩ := ho
  simp only at hb ha ⊢
  by_cases hok : 1 ≤ n ∧ n ≤ 100 ∧ 1 ≤ m ∧ m ≤ n ∧ 1 ≤ b ∧ b ≤ m ∧ 0 ≤ a ∧ a ≤ 64 ∧ (d.length : Int) ≤ 64 - a
  · obtain ⟨o1, o2, o3, o4, o5, o6, o7, o8, o9⟩ := hok
    unfold I64 at hn hm hb ha
    obtain ⟨N, rfl⟩ : ∃ N : Nat, n = N := ⟨n.toNat, by omega⟩
    obtain ⟨M, rfl⟩ : ∃ M : Nat, m = M := ⟨m.toNat, by omega⟩
    obtain ⟨j, rfl⟩ : ∃ j : Nat, b = (j : Int) + 1 := ⟨(b - 1).toNat, by omega⟩
    obtain ⟨k0, rfl⟩ : ∃ k0 : Nat, a = k0 := ⟨a.toNat, by omega⟩
    obtain ⟨W0, hW0⟩ : ∃ W0, W0 = w.alloc (.cells #[.int .i64 ask, .int .i64 ((j : Int) + 1), .int .i64 (k0 : Int), .int .i64 z, .string (BA d)] 32) := ⟨_, rfl⟩
    have HW0 := hide hW0
    have HB0 : Hid (∀ W, Below W0.heap.size W0 W → Below w.heap.size w W) := hide (fun W h => by
      have hb : Below w.heap.size w W0 := by rw [hW0]; exact (Below.refl _ w).alloc (Nat.le_refl _) _
      exact hb.trans (h.mono hb.size))
    have HC0 : Hid (∀ W, Below W0.heap.size W0 W → W.cell? ⟨w.heap.size, 1, none⟩ = some (.int .i64 ((j : Int) + 1)) ∧ W.cell? ⟨w.heap.size, 2, none⟩ = some (.int .i64 (k0 : Int)) ∧ W.cell? ⟨w.heap.size, 4, none⟩ = some (.string (BA d))) := hide (fun W h => by
      have hk : Blk W0 w.heap.size 32 #[.int .i64 ask, .int .i64 ((j : Int) + 1), .int .i64 (k0 : Int), .int .i64 z, .string (BA d)] := by rw [hW0]; exact Blk.new _ _ _
      have hk2 := hk.below h hk.lt
      exact ⟨hk2.cell 1 rfl, hk2.cell 2 rfl, hk2.cell 4 rfl⟩)
    have HNW := hide (new_held N W0 W0 (Below.refl _ _) (by omega) (by omega))
    obtain ⟨nb, hnb⟩ : ∃ nb, nb = w.heap.size := ⟨_, rfl⟩
    have HNB := hide hnb
    rw [← hnb] at HC0
    obtain ⟨q1, q2, q4⟩ := unhide HC0 W0 (Below.refl _ _)
    have hjM : j < M := by omega
    have hMN : M ≤ N := by omega
    have hN : N ≤ 100 := by omega
    have hkd : k0 + d.length ≤ 64 := by omega
    have p1 : ¬ (N : Int) < 1 := by omega
    have p2 : ¬ (100 : Int) < (N : Int) := by omega
    have p3 : ¬ (M : Int) < 1 := by omega
    have p4 : ¬ (N : Int) < (M : Int) := by omega
    have p5 : ¬ (j : Int) + 1 < 1 := by omega
    have p6 : ¬ (M : Int) < (j : Int) + 1 := by omega
    have p8 : ¬ (64 : Int) < (k0 : Int) := by omega
    have p9 : ¬ (64 : Int) - (k0 : Int) < (d.length : Int) := by omega
    clear hW0 hnb o1 o2 o3 o4 o5 o6 o7 o8 o9 hn hm hb ha
    go_enter Try.func4, Try.ntmps4
    go_upto_region 1 with fail
    rw [← unhide HW0, ← unhide HNB]
    go_cut [62] from 18 to 62 (fun x wx => x = .bool false ∧ wx = W0)
    case first =>
      go_wp2
      go_meet
      exact ⟨rfl, rfl⟩
    case rest =>
    obtain ⟨rfl, hwc⟩ := hcut
    rw [show wc = W0 from hwc]
    clear hwc q1 q2 q4 p1 p2 p3 p4 p5 p6 p8 p9
    go_wp2_with fail
    refine (unhide HNW).mono ?_
    rintro e w1 ⟨p, g, h, rfl, k1, _⟩
    rw [← fill_0] at k1
    have K1 := hide k1
    clear k1 HNW
    go_wp2_with fail
    go_loopw [9] (fun i wr => ∃ k : Nat, i = .int .i64 ((k : Int) + 1) ∧ k ≤ M ∧ Hid (Held W0 wr p g h (fillL N k))) (fun i _ => M + 1 - (intOf i).toNat)
    case atStart => exact ⟨0, rfl, Nat.zero_le _, K1⟩
    case round =>
      obtain ⟨k, rfl, hk, KR⟩ := hrel
      by_cases hlt : k < M
      · have hk1 : (k : Int) + 1 ≤ (M : Int) := by omega
        have hkN : k < N := by omega
        go_wp2_with fail
        refine (take_held (unhide KR) (fill_takeN hkN) (fill_takeE hkN) (fill_takeL hkN)).mono ?_
        rintro e w2 ⟨rfl, k2, _⟩
        have K2 := hide k2
        clear k2 KR
        have cv := three_run k (by omega) w2
        have hwr : IntKind.u8.wrap ((k : Int) + 1) = (k : Int) + 1 := by rw [IntKind.wrap_u8]; omega
        have HWT := hide (write_held ((unhide K2).below ((Below.refl _ _).alloc (Nat.le_refl _) (.cells #[.int .u8 ((k : Int) + 1), .int .u8 1, .int .u8 2] 5))) ((k : Int) + 1) 0 [byt (k + 1), 1, 2] (by omega) (by omega) (fill_write hkN).1 (fill_write hkN).2)
        clear K2
        go_wp2_with fail
        refine (unhide HWT).mono ?_
        rintro e w3 ⟨rfl, k3, _⟩
        have K3 := hide k3
        clear k3 HWT cv
        go_wp2
        go_roundw
        case rel => exact ⟨k + 1, by go_num, by omega, K3⟩
        case measure => simp [intOf]; omega
      · have hkM : k = M := by omega
        rw [hkM] at KR
        have HKM := hide hkM
        have hk1 : ¬ (k : Int) + 1 ≤ (M : Int) := by omega
        clear hkM
        obtain ⟨q1, q2, q4⟩ := unhide HC0 _ (unhide KR).2.1
        have HXJ : Hid ((fillL N M)[j]? = some (hdr (byt (j + 1)))) := hide (by rw [fill_get (by omega), if_pos hjM])
        have HRA := hide (read_all (unhide HXJ) (hdr_len (byt (j + 1))))
        obtain ⟨X, hX⟩ : ∃ X, X = hdr (byt (j + 1)) := ⟨_, rfl⟩
        have hxl : X.length = 64 := by rw [hX]; exact hdr_len _
        rw [← hX] at HXJ HRA
        have HXE := hide hX
        have HKR := KR
        clear hX KR
        go_wp2_with fail
        refine (read_held (unhide HKR) _ 0 64 (by omega) (by omega) (unhide HRA).1 (unhide HRA).2).mono ?_
        rintro e w2 ⟨rfl, hw2⟩
        rw [show w2 = wr from hw2]
        clear hw2
        have HWA := hide (write_at (o := k0) (d := d) (unhide HXJ) (fun e => by rw [e] at hxl; cases hxl) (by omega))
        go_wp2_with fail
        refine (write_held (unhide HKR) _ (k0 : Int) d (by omega) (by omega) (unhide HWA).1 (unhide HWA).2).mono ?_
        rintro e w3 ⟨rfl, k3, _⟩
        have K3 := hide k3
        clear k3 HKR HWA HRA q1 q2 q4
        go_wp2_with fail
        go_loopw [14] (fun i wr => ∃ k : Nat, i = .int .i64 ((k : Int) + 1) ∧ k ≤ M ∧ Hid (Held W0 wr p g h ((fillL N M).set j (putAt X k0 d)))) (fun i _ => M + 1 - (intOf i).toNat)
        case atStart => exact ⟨0, rfl, Nat.zero_le _, K3⟩
        case round =>
          obtain ⟨k', rfl, hk', KR⟩ := hrel
          by_cases hlt' : k' < M
          · have hk1' : (k' : Int) + 1 ≤ (M : Int) := by omega
            obtain ⟨T, hT⟩ : ∃ T, T = if k' = j then putAt X k0 d else hdr (byt (k' + 1)) := ⟨_, rfl⟩
            have hTl : T.length = 64 := by
              rw [hT]
              split
              · exact put_len hxl (by omega)
              · exact hdr_len _
            have HTG : Hid (((fillL N M).set j (putAt X k0 d))[k']? = some T) := hide (by
              rw [List.getElem?_set, fill_len, hT]
              by_cases e : j = k'
              · rw [if_pos e, if_pos (by omega), if_pos e.symm]
              · rw [if_neg e, if_neg (fun e2 => e e2.symm), fill_get (by omega), if_pos hlt'])
            have HT := hide hT
            clear hT
            have HRA := hide (read_all (unhide HTG) hTl)
            go_wp2_with fail
            refine (read_held (unhide KR) _ 0 64 (by omega) (by omega) (unhide HRA).1 (unhide HRA).2).mono ?_
            rintro e w4 ⟨rfl, hw4⟩
            rw [show w4 = wr from hw4]
            clear hw4
            go_upto_region 19 with fail
            obtain ⟨zc, mk, cz⟩ := zeros_at 61 (by decide)
            obtain ⟨Z, hZ⟩ : ∃ Z : List UInt8, Z = List.replicate 61 0 := ⟨_, rfl⟩
            rw [← hZ] at cz
            have hZl : Z.length = 61 := by rw [hZ, List.length_replicate]
            have HZ := hide hZ
            have mk1 : ∀ u : World, (Instr.makeSlice 43 (.int .i64 61) (.int .i64 61)).run Try.prog u = .ok (.slice (some ⟨u.heap.size, 0, none⟩) 61 61) (u.alloc (.cells zc 5)) := mk
            have hwr : IntKind.u8.wrap ((k' : Int) + 1) = (k' : Int) + 1 := by rw [IntKind.wrap_u8]; omega
            obtain ⟨e1, e1d, e1n⟩ := three_all k' (by omega) (wr.alloc (.cells #[.int .u8 ((k' : Int) + 1), .int .u8 1, .int .u8 2] 5)) wr.heap.size (Blk.new _ _ _)
            obtain ⟨e2, e2d, e2n⟩ := three_all k' (by omega) ((wr.alloc (.cells #[.int .u8 ((k' : Int) + 1), .int .u8 1, .int .u8 2] 5)).alloc (.cells zc 5)) wr.heap.size ((Blk.new _ _ _).alloc _)
            obtain ⟨e3, e3d, e3n⟩ := three_all k' (by omega) ((wr.alloc (.cells zc 5)).alloc (.cells #[.int .u8 ((k' : Int) + 1), .int .u8 1, .int .u8 2] 5)) (wr.heap.size + 1) (by have := Blk.new (wr.alloc (.cells zc 5)) 5 #[.int .u8 ((k' : Int) + 1), .int .u8 1, .int .u8 2]; simpa using this)
            obtain ⟨e4, e4d, e4n⟩ := zeros_all cz (wr.alloc (.cells zc 5)) wr.heap.size (Blk.new _ _ _)
            obtain ⟨e5, e5d, e5n⟩ := zeros_all cz ((wr.alloc (.cells zc 5)).alloc (.cells #[.int .u8 ((k' : Int) + 1), .int .u8 1, .int .u8 2] 5)) wr.heap.size ((Blk.new _ _ _).alloc _)
            obtain ⟨e6, e6d, e6n⟩ := zeros_all cz ((wr.alloc (.cells #[.int .u8 ((k' : Int) + 1), .int .u8 1, .int .u8 2] 5)).alloc (.cells zc 5)) (wr.heap.size + 1) (by have := Blk.new (wr.alloc (.cells #[.int .u8 ((k' : Int) + 1), .int .u8 1, .int .u8 2] 5)) 5 zc; simpa using this)
            unfold CvAt at e1 e1d e1n e2 e2d e2n e3 e3d e3n e4 e4d e4n e5 e5d e5n e6 e6d e6n
            clear mk cz hZ
            go_cut [17] from 134 to 140 (fun s wx => s = .string (BA (hdr (byt (k' + 1)))) ∧ Hid (Below wr.heap.size wr wx))
            case first =>
              have HS : Hid (BA [byt (k' + 1), 1, 2] ++ BA Z = BA (hdr (byt (k' + 1)))) := hide (by rw [BA_add, unhide HZ]; rfl)
              go_wp2_with fail
              go_region
              all_goals
                go_wp2
                go_meet
                exact ⟨congrArg Value.string (unhide HS), hide ((((Below.refl _ wr).alloc (Nat.le_refl _) _).alloc (by simp) _).trans ((below_drew _ 1).mono (by simp; omega)))⟩
            case rest =>
            obtain ⟨rfl, HBC⟩ := hcut
            clear e1 e1d e1n e2 e2d e2n e3 e3d e3n e4 e4d e4n e5 e5d e5n e6 e6d e6n mk1 hwr HZ hZl
            have KC := hide ((unhide KR).below (unhide HBC))
            clear KR HBC
            obtain ⟨q1, q2, q4⟩ := unhide HC0 _ (unhide KC).2.1
            go_upto_if 144 with fail
            go_cut [17] from 141 to 160 (fun s wx => s = .string (BA T) ∧ Hid (Below wc.heap.size wc wx))
            case first =>
              by_cases e : k' = j
              · have HTE : Hid (BA (X.take k0) ++ BA d ++ BA (X.drop (k0 + d.length)) = BA T) := hide (by rw [put_BA, unhide HT, if_pos e])
                have he : ((k' : Int) + 1 == (j : Int) + 1) = true := by rw [e]; simp
                have f1 := ext_take X k0
                have f2 := ext_drop X (k0 + d.length) 64 hxl
                have t1 : (X.take k0).length ≤ 64 := by rw [List.length_take]; omega
                have t2 : (X.drop (k0 + d.length)).length ≤ 64 := by rw [List.length_drop]; omega
                have t3 : (k0 : Int) + (d.length : Int) ≤ 64 := by omega
                have t4 : (k0 : Int) ≤ 64 := by omega
                have t5 : (0 : Int) ≤ (k0 : Int) := by omega
                clear e
                go_wp2_with fail
                go_quiet (fail)
                go_wp2
                go_meet
                exact ⟨congrArg Value.string (unhide HTE), hide (below_drew _ _)⟩
              · have he : ((k' : Int) + 1 == (j : Int) + 1) = false := by simp; omega
                have HTE : Hid (hdr (byt (k' + 1)) = T) := hide (by rw [unhide HT, if_neg e])
                clear e
                go_wp2
                go_meet
                exact ⟨by rw [unhide HTE], hide (Below.refl _ _)⟩
            case rest =>
            rename_i wd _
            obtain ⟨rfl, HBD⟩ := hcut
            have KD := hide ((unhide KC).below (unhide HBD))
            clear KC HBD q1 q2 q4
            go_wp2
            go_roundw
            case rel => exact ⟨k' + 1, by go_num, by omega, KD⟩
            case measure => simp [intOf]; omega
          · have hk1' : ¬ (k' : Int) + 1 ≤ (M : Int) := by omega
            have HFR : Hid (Calls Try.prog 21 #[.pointer (some ⟨p, 0, none⟩)] wr fun e w' => e = .returned (.int .i64 ((N : Int) - (M : Int))) ∧ w' = wr) := hide ((free_held (unhide KR)).mono (fun e w' ⟨h1, h2⟩ => ⟨by
              rw [h1, keep_count hjM hMN (put_len hxl (by omega))]
              exact ret_int (by omega), h2⟩))
            go_wp2_with fail
            refine (unhide HFR).mono ?_
            rintro e w4 ⟨rfl, hw4⟩
            rw [show w4 = wr from hw4]
            clear hw4
            go_wp2_with fail
            refine (unhide HAW _ (unhide HB0 _ (unhide KR).2.1)).mono ?_
            rintro e w5 ⟨rfl, b5⟩
            have HB5 := hide b5
            clear b5
            go_wp2
            go_ret
            exact ⟨rfl, unhide HB5⟩
  · exact keeps_bad n m ask b a z d w hn hm hb ha hok

end Go.Proofs.Ytfolnccpnncmiaa

/-
  Directories (stage 13): placeOf.
  Directories (stage 13) in memory, while a call turns them.
  Sorted keys of maps: contracts of the shelf at this program.
-/
import Derived.Test.YtnpeiibecihleaaGreatDoorM13
import Derived.Sort.KeysCollected
import Derived.Shelf.SlIter.Nil
import Derived.Shelf.SlIterI.Nil
import Derived.Shelf.SortM.Plain
import Derived.Shelf.SortM.SortNone
import Derived.Test.YtnpeiibecihleaaGreatDoorM05
/- Directories (stage 13): placeOf. -/
namespace Go.Proofs.YtnpeiibecihleaaGreatDoor
open Go.RowKit Go.Maps

theorem res_place2 {fn : Func} {t u : Tmp} (h : fn.results = #[.cell t 109, .tmp u]) (tmps : Array Value) (w : World) (b : Nat) (x0 x1 : Value) (ht : tmps.getD t undef = .pointer (some ⟨b, 0, none⟩))
    (h0 : w.cell? ⟨b, 0, none⟩ = some x0) (h1 : w.cell? ⟨b, 1, none⟩ = some x1) :
    (results fn tmps).run Tryz.prog w = .ok (.tuple #[.agg #[x0, x1], tmps.getD u undef]) w := by
  have ht' : tmps[t]?.getD undef = .pointer (some ⟨b, 0, none⟩) := by simpa using ht
  unfold results
  rw [h]
  simp [ht', go_sem, h0, h1]
/-- What placeOf answers. -/
def PlcIs (R : Int × List UInt8 × Int) (N : Int) (t : List UInt8) (E : Int) : Prop := E = R.2.2 ∧ (R.2.2 = 0 → N = R.1 ∧ t = R.2.1) ∧ t.length ≤ 100000 ∧ 0 ≤ N ∧ N ≤ 1024
theorem plc_no {R : Int × List UInt8 × Int} {E : Int} (h : R.2.2 = E) (hE : E ≠ 0) : PlcIs R 0 [] E := ⟨h.symm, fun e => absurd (h.symm.trans e) hE, Nat.zero_le _, by decide, by decide⟩
theorem plc_ok {R : Int × List UInt8 × Int} {N : Int} {t : List UInt8} (h : R = (N, t, 0)) (ht : t.length ≤ 100000) (h0 : 0 ≤ N) (h1 : N ≤ 1024) : PlcIs R N t 0 := by
  subst h
  exact ⟨rfl, fun _ => ⟨rfl, rfl⟩, ht, h0, h1⟩
theorem below_set2 {w W : World} {pb : Nat} (hb : Below w.heap.size w W) (hp : w.heap.size ≤ pb) (u v : Value) : Below w.heap.size w ((W.setCell ⟨pb, 0, none⟩ u).setCell ⟨pb, 1, none⟩ v) := by
  have g1 : GrownS W (W.setCell ⟨pb, 0, none⟩ u) (fun k => k = pb) := GrownS.of (grown_setCell W _ _) (fun k e => by simpa using e)
  have g2 : GrownS (W.setCell ⟨pb, 0, none⟩ u) ((W.setCell ⟨pb, 0, none⟩ u).setCell ⟨pb, 1, none⟩ v) (fun k => k = pb) := GrownS.of (grown_setCell _ _ _) (fun k e => by simpa using e)
  exact hb.trans ((g1.trans g2).below hb.size (fun k e => by rw [e]; exact hp))
theorem place_is {s : NS} {d : Int} {p : List UInt8} (hd : isD s d = true) : placeN s d p = if p = [] then (0, [], 23) else if lastN (stripN p) = [] ∨ lastN (stripN p) = [46] ∨ lastN (stripN p) = [46, 46] then (0, [], 1) else if 256 < p.length ∨ 32 < (lastN (stripN p)).length then (0, [], 3) else if aheadN (stripN p) = [] then (d, lastN (stripN p), 0) else ((goesN s 8 d (aheadN (stripN p)) true 8).1, lastN (stripN p), (goesN s 8 d (aheadN (stripN p)) true 8).2.1) := by
  unfold placeN
  rw [if_neg (by rw [hd]; decide)]
  split
  · rfl
  · split
    · rfl
    · split
      · rfl
      · by_cases h : aheadN (stripN p) = []
        · rw [if_pos h, if_pos h]
        · rw [if_neg h, if_neg h]
          unfold walkN
          rw [if_pos hd]
          dsimp only
          obtain ⟨q, hq⟩ := ahead_snoc h
          rw [hq]
          rw [if_neg]
          rintro ⟨h1, h2⟩
          rw [goes_dir h1] at h2
          cases h2
theorem last_le (p : List UInt8) : (lastN p).length ≤ p.length := by
  have := ahead_last p
  have h2 : (aheadN p).length + (lastN p).length = p.length := by rw [← List.length_append, this]
  omega
theorem ahead_le (p : List UInt8) : (aheadN p).length + (lastN p).length = p.length := by
  rw [← List.length_append, ahead_last]
set_option maxRecDepth 20000 in
set_option maxHeartbeats 4000000 in
theorem placeOf_any {w : World} {q nb n : Nat} {B : Bas} {Y : Nat → Prop} {s : NS} (H : NdX w q Y s nb n B) (d : Int) (p : List UInt8) (h0 : 0 ≤ d) (h1 : d ≤ 1024) (hp : p.length ≤ 100000) (hd : isD s d = true) : Calls Tryz.prog 90 #[.pointer (some ⟨q, 0, none⟩), .int .i64 d, .string (BA p)] w fun e w' => ∃ N t E, e = .returned (.tuple #[.agg #[.int .i64 N, .string (BA t)], .int .i64 E]) ∧ Hid (PlcIs (placeN s d p) N t E ∧ Below w.heap.size w w') := by
  have HPL := hide (place_is (p := p) hd)
  obtain ⟨RR, hRR⟩ : ∃ RR, RR = placeN s d p := ⟨_, rfl⟩
  rw [← hRR] at HPL ⊢
  clear hRR
  have he := emp_eq p
  have hbw : Below w.heap.size w (w.alloc (.cells #[.int .i64 0, .string ⟨#[]⟩] 109)) := (Below.refl _ w).alloc (Nat.le_refl _) _
  have hnew := Blk.new w 109 #[.int .i64 0, .string ⟨#[]⟩]
  have hfin : ∀ (w' : World) (N : Int) (t : List UInt8), Blk w' w.heap.size 109 #[.int .i64 N, .string (BA t)] → w'.cell? ⟨w.heap.size, 0, none⟩ = some (.int .i64 N) ∧ w'.cell? ⟨w.heap.size, 1, none⟩ = some (.string (BA t)) := fun w' N t h => ⟨h.cell 0 rfl, h.cell 1 rfl⟩
  by_cases hb0 : p = []
  · rw [decide_eq_true hb0] at he
    have HA : Hid (RR = (0, [], 23)) := hide (by rw [unhide HPL, if_pos hb0])
    have HB := hide hbw
    have HN := hide hnew
    clear H hb0 HPL hbw hnew hfin
    go_enter Tryz.func90, Tryz.ntmps90
    go_wp2_with fail
    refine bodyPost_ret (res_place2 rfl _ _ w.heap.size _ _ rfl ((unhide HN).cell 0 rfl) ((unhide HN).cell 1 rfl)) rfl ⟨0, [], 23, rfl, hide ⟨plc_no (by rw [unhide HA]) (by decide), unhide HB⟩⟩
  · rw [decide_eq_false hb0] at he
    have HTR := hide (fun W => trim_any p W hp)
    have hsl := strip_le p
    obtain ⟨sp, hsp⟩ : ∃ sp, sp = stripN p := ⟨_, rfl⟩
    rw [← hsp] at HTR HPL hsl
    have HLI := hide (fun W => lastIdx_any sp W (by omega))
    have hal := ahead_le sp
    have hx1 := ext_ahead sp
    have hx2 := ext_last sp
    obtain ⟨la, hla⟩ : ∃ la, la = lastN sp := ⟨_, rfl⟩
    obtain ⟨ah, hah⟩ : ∃ ah, ah = aheadN sp := ⟨_, rfl⟩
    rw [← hla, ← hah] at hal HPL
    rw [← hah] at HLI hx1 hx2
    rw [← hla] at hx2
    have hwr : IntKind.i64.wrap ((ah.length : Int) - 1 + 1) = (ah.length : Int) := by
      simp [IntKind.wrap, IntKind.signed, IntKind.bits]
      omega
    have e0 := emp_eq la
    have e1 := txt_eq la [46]
    have e2 := txt_eq la [46, 46]
    have e3 := emp_eq ah
    obtain ⟨z, hz⟩ : ∃ z, z = ah.length := ⟨_, rfl⟩
    rw [← hz] at hal HLI hx1 hx2 hwr
    have HZ := hide hz
    obtain ⟨lz, hlz⟩ : ∃ lz, lz = la.length := ⟨_, rfl⟩
    rw [← hlz] at hal
    have hla2 : la.length = lz := hlz.symm
    have HB := hide hbw
    have HN := hide hnew
    have HFN := hide hfin
    clear hbw hnew hfin hsp hla hah hz hlz
    go_enter Tryz.func90, Tryz.ntmps90
    go_wp2_with fail
    refine (unhide HTR _).mono ?_
    rintro e w1 ⟨rfl, hw1⟩
    subst hw1
    go_wp2_with fail
    refine (unhide HLI _).mono ?_
    rintro e w1 ⟨rfl, hw1⟩
    subst hw1
    obtain ⟨W1, hW1⟩ : ∃ W1, W1 = w.alloc (.cells #[.int .i64 0, .string ⟨#[]⟩] 109) := ⟨_, rfl⟩
    obtain ⟨pb, hpb⟩ : ∃ pb, pb = w.heap.size := ⟨_, rfl⟩
    have HPB : Hid (w.heap.size ≤ pb) := hide (by rw [hpb]; exact Nat.le_refl _)
    rw [← hW1] at HB HN ⊢
    rw [← hpb] at HN ⊢
    have HH := hide H
    clear hW1 hpb HFN H HTR HLI
    go_wp2_with fail
    go_quiet (fail)
    obtain ⟨W2, hW2⟩ : ∃ W2, W2 = W1.drewN nq := ⟨_, rfl⟩
    rw [← hW2]
    have HB2 : Hid (Below w.heap.size w W2) := hide (by rw [hW2]; exact (unhide HB).trans ((below_drew _ _).mono (unhide HB).size))
    have HK2 : Hid (Blk W2 pb 109 #[.int .i64 0, .string ⟨#[]⟩]) := hide (by rw [hW2]; exact unhide HN)
    have f0 : W2.cell? ⟨pb, 0, none⟩ = some (.int .i64 0) := (unhide HK2).cell 0 rfl
    have f1 : W2.cell? ⟨pb, 1, none⟩ = some (.string ⟨#[]⟩) := (unhide HK2).cell 1 rfl
    have f2 : W2.frozen? ⟨pb, 0, none⟩ = false := (unhide HK2).frozen 0
    have f3 : W2.frozen? ⟨pb, 1, none⟩ = false := (unhide HK2).frozen 1
    have HWK := hide (walkFrom_any ((unhide HH).below (unhide HB2)) d ah true h0 h1 (by have := unhide HZ; omega))
    have HBN := hide (goes_bnd (unhide HH).ok 8 ah true 8 h0 h1)
    have HZE : Hid ((goesN s 8 d ah true 8).2.1 ≠ 0 → (goesN s 8 d ah true 8).1 = 0) := hide (fun h => goF_zer s 9 d ah 8 h)
    clear hW2 HB HN HH
    by_cases hb1 : la = [] ∨ la = [46] ∨ la = [46, 46]
    · have HA : Hid (RR = (0, [], 1)) := hide (by rw [unhide HPL, if_neg hb0, if_pos hb1])
      have HQ := hide hb1
      clear hb1 HPL HWK HBN HZE
      rcases unhide HQ with hq | hq | hq
      · rw [decide_eq_true hq] at e0
        clear e1 e2 hq HQ
        go_wp2_with fail
        refine bodyPost_ret (res_place2 rfl _ _ pb _ _ rfl (by first | exact (((unhide HK2).set 0 _).set 1 _).cell 0 rfl | exact (unhide HK2).cell 0 rfl) (by first | exact (((unhide HK2).set 0 _).set 1 _).cell 1 rfl | exact (unhide HK2).cell 1 rfl)) rfl ⟨0, [], 1, rfl, hide ⟨plc_no (by rw [unhide HA]) (by decide), by first | exact below_set2 (unhide HB2) (unhide HPB) _ _ | exact unhide HB2⟩⟩
      · rw [decide_eq_false (by rw [hq]; decide)] at e0
        rw [decide_eq_true hq] at e1
        clear e2 hq HQ
        go_wp2_with fail
        refine bodyPost_ret (res_place2 rfl _ _ pb _ _ rfl (by first | exact (((unhide HK2).set 0 _).set 1 _).cell 0 rfl | exact (unhide HK2).cell 0 rfl) (by first | exact (((unhide HK2).set 0 _).set 1 _).cell 1 rfl | exact (unhide HK2).cell 1 rfl)) rfl ⟨0, [], 1, rfl, hide ⟨plc_no (by rw [unhide HA]) (by decide), by first | exact below_set2 (unhide HB2) (unhide HPB) _ _ | exact unhide HB2⟩⟩
      · rw [decide_eq_false (by rw [hq]; decide)] at e0
        rw [decide_eq_false (by rw [hq]; decide)] at e1
        rw [decide_eq_true hq] at e2
        clear hq HQ
        go_wp2_with fail
        refine bodyPost_ret (res_place2 rfl _ _ pb _ _ rfl (by first | exact (((unhide HK2).set 0 _).set 1 _).cell 0 rfl | exact (unhide HK2).cell 0 rfl) (by first | exact (((unhide HK2).set 0 _).set 1 _).cell 1 rfl | exact (unhide HK2).cell 1 rfl)) rfl ⟨0, [], 1, rfl, hide ⟨plc_no (by rw [unhide HA]) (by decide), by first | exact below_set2 (unhide HB2) (unhide HPB) _ _ | exact unhide HB2⟩⟩
    · rw [decide_eq_false (fun e => hb1 (.inl e))] at e0
      rw [decide_eq_false (fun e => hb1 (.inr (.inl e)))] at e1
      rw [decide_eq_false (fun e => hb1 (.inr (.inr e)))] at e2
      by_cases hb2 : 256 < p.length ∨ 32 < la.length
      · have HA : Hid (RR = (0, [], 3)) := hide (by rw [unhide HPL, if_neg hb0, if_neg hb1, if_pos hb2])
        have HQ := hide hb2
        clear hb1 hb2 HPL HWK HBN HZE
        by_cases hq : 256 < p.length
        · go_wp2_with fail
          refine bodyPost_ret (res_place2 rfl _ _ pb _ _ rfl (by first | exact (((unhide HK2).set 0 _).set 1 _).cell 0 rfl | exact (unhide HK2).cell 0 rfl) (by first | exact (((unhide HK2).set 0 _).set 1 _).cell 1 rfl | exact (unhide HK2).cell 1 rfl)) rfl ⟨0, [], 3, rfl, hide ⟨plc_no (by rw [unhide HA]) (by decide), by first | exact below_set2 (unhide HB2) (unhide HPB) _ _ | exact unhide HB2⟩⟩
        · have hq2 : 32 < lz := by rcases unhide HQ with h | h <;> omega
          go_wp2_with fail
          refine bodyPost_ret (res_place2 rfl _ _ pb _ _ rfl (by first | exact (((unhide HK2).set 0 _).set 1 _).cell 0 rfl | exact (unhide HK2).cell 0 rfl) (by first | exact (((unhide HK2).set 0 _).set 1 _).cell 1 rfl | exact (unhide HK2).cell 1 rfl)) rfl ⟨0, [], 3, rfl, hide ⟨plc_no (by rw [unhide HA]) (by decide), by first | exact below_set2 (unhide HB2) (unhide HPB) _ _ | exact unhide HB2⟩⟩
      · have hq1 : ¬ 256 < p.length := fun h => hb2 (.inl h)
        have hq2 : ¬ 32 < lz := fun h => hb2 (.inr (by omega))
        have HPL2 : Hid (RR = if ah = [] then (d, la, 0) else ((goesN s 8 d ah true 8).1, la, (goesN s 8 d ah true 8).2.1)) := hide (by rw [unhide HPL, if_neg hb0, if_neg hb1, if_neg hb2])
        have HLA : Hid (la.length ≤ 100000) := hide (by omega)
        clear hb1 hb2 HPL
        by_cases hb3 : ah = []
        · rw [decide_eq_true hb3] at e3
          have HA : Hid (RR = (d, la, 0)) := hide (by rw [unhide HPL2, if_pos hb3])
          clear hb3 HPL2 HWK HBN HZE
          go_wp2_with fail
          refine bodyPost_ret (res_place2 rfl _ _ pb _ _ rfl (by first | exact (((unhide HK2).set 0 _).set 1 _).cell 0 rfl | exact (unhide HK2).cell 0 rfl) (by first | exact (((unhide HK2).set 0 _).set 1 _).cell 1 rfl | exact (unhide HK2).cell 1 rfl)) rfl ⟨d, la, 0, rfl, hide ⟨plc_ok (unhide HA) (unhide HLA) h0 h1, by first | exact below_set2 (unhide HB2) (unhide HPB) _ _ | exact unhide HB2⟩⟩
        · rw [decide_eq_false hb3] at e3
          have HA : Hid (RR = ((goesN s 8 d ah true 8).1, la, (goesN s 8 d ah true 8).2.1)) := hide (by rw [unhide HPL2, if_neg hb3])
          obtain ⟨N, hN⟩ : ∃ N, N = (goesN s 8 d ah true 8).1 := ⟨_, rfl⟩
          obtain ⟨E, hE⟩ : ∃ E, E = (goesN s 8 d ah true 8).2.1 := ⟨_, rfl⟩
          rw [← hN, ← hE] at HA HWK HZE
          rw [← hN] at HBN
          clear hb3 HPL2 hN hE
          go_wp2_with fail
          refine (unhide HWK).mono ?_
          rintro e w5 ⟨rfl, b5⟩
          have HK5 := hide ((unhide HK2).below b5 (unhide HK2).lt)
          have HB5 := hide ((unhide HB2).trans (b5.mono (unhide HB2).size))
          clear HK2 HB2 HWK f0 f1 f2 f3 b5
          have HK2 := HK5
          have HB2 := HB5
          clear HK5 HB5
          have f0 : w5.cell? ⟨pb, 0, none⟩ = some (.int .i64 0) := (unhide HK2).cell 0 rfl
          have f1 : w5.cell? ⟨pb, 1, none⟩ = some (.string ⟨#[]⟩) := (unhide HK2).cell 1 rfl
          have f2 : w5.frozen? ⟨pb, 0, none⟩ = false := (unhide HK2).frozen 0
          have f3 : w5.frozen? ⟨pb, 1, none⟩ = false := (unhide HK2).frozen 1
          by_cases hE0 : E = 0
          · subst hE0
            go_wp2_with fail
            refine bodyPost_ret (res_place2 rfl _ _ pb _ _ rfl (by first | exact (((unhide HK2).set 0 _).set 1 _).cell 0 rfl | exact (unhide HK2).cell 0 rfl) (by first | exact (((unhide HK2).set 0 _).set 1 _).cell 1 rfl | exact (unhide HK2).cell 1 rfl)) rfl ⟨N, la, 0, rfl, hide ⟨plc_ok (unhide HA) (unhide HLA) (unhide HBN).1.1 (unhide HBN).1.2, by first | exact below_set2 (unhide HB2) (unhide HPB) _ _ | exact unhide HB2⟩⟩
          · have hE1 : (E != 0) = true := by simpa using hE0
            have HE0 := hide hE0
            clear hE0
            go_wp2_with fail
            refine bodyPost_ret (res_place2 rfl _ _ pb _ _ rfl (by first | exact (((unhide HK2).set 0 _).set 1 _).cell 0 rfl | exact (unhide HK2).cell 0 rfl) (by first | exact (((unhide HK2).set 0 _).set 1 _).cell 1 rfl | exact (unhide HK2).cell 1 rfl)) rfl ⟨0, [], E, rfl, hide ⟨plc_no (by rw [unhide HA]) (unhide HE0), by first | exact below_set2 (unhide HB2) (unhide HPB) _ _ | exact unhide HB2⟩⟩

end Go.Proofs.YtnpeiibecihleaaGreatDoor

/- Directories (stage 13) in memory, while a call turns them. -/
namespace Go.Proofs.YtnpeiibecihleaaGreatDoor
open Go.RowKit Go.Maps

/-- A map whose keys are numbers from 1 to 1024 has no more than so many. -/
theorem dirs_size {w : World} {dm : Nat} {V : DataW Value} (h : MapV w 3 dm V) (hno : ∀ d : Int, ¬ (1 ≤ d ∧ d ≤ 1024) → has V (.int .i64 d) = false) : Maps.size V ≤ 1024 := by
  obtain ⟨es, rfl, hk⟩ := World.ownsMap.keysOf h
  obtain ⟨es', e', ht⟩ := h.tidy lawI
  injection e' with e'
  subst e'
  have h1 : (es.map (·.1)).Nodup := by
    unfold List.Nodup
    rw [List.pairwise_map]
    exact ht
  have h2 : es.map (·.1) ⊆ (List.range 1024).map (fun i : Nat => Lit.int .i64 ((i : Int) + 1)) := by
    intro k hkm
    obtain ⟨p, hp, rfl⟩ := List.mem_map.1 hkm
    obtain ⟨v, hv⟩ := hk p hp
    obtain ⟨x, _, hx, _⟩ := keyOf_int_inv Tryz.underlying3 hv
    have hh : has (.map es) (.int .i64 x) = true := by
      rw [has_eq, List.any_eq_true]
      refine ⟨p, hp, ?_⟩
      rw [hx]
      simp [Lit.sameKey]
    have hr : 1 ≤ x ∧ x ≤ 1024 := by
      by_cases hr : 1 ≤ x ∧ x ≤ 1024
      · exact hr
      · rw [hno x hr] at hh
        cases hh
    rw [hx, List.mem_map]
    refine ⟨(x - 1).toNat, List.mem_range.2 (by omega), ?_⟩
    have : (((x - 1).toNat : Nat) : Int) + 1 = x := by omega
    rw [this]
  have h3 := List.Nodup.length_le_of_subset h1 h2
  rw [List.length_map, List.length_map, List.length_range] at h3
  exact h3
/-- As NdL, but that D says which directories have an entry. -/
structure NdG (w : World) (q t dm : Nat) (M : Int → Nat) (X : Nat → Prop) (T : TB) (L : List Nm) (par : Int → Int) (D : Int → Prop) (nb : Nat) : Prop where
  nds : Blk w q 97 #[.pointer (some ⟨t, 0, none⟩), .map (some dm)]
  tab : TAt w t X T nb
  lt : ∀ k, X k → k < w.heap.size
  noq : ¬ X q
  nod : ¬ X dm
  dirs : ∃ V, MapV w 3 dm V ∧ (∀ d, D d → ∀ z, V.atKey (.int .i64 d) z = .held (dirV (par d) (M d))) ∧ (∀ d, ¬ D d → has V (.int .i64 d) = false)
  each : ∀ d, D d → MapV w 9 (M d) (datN L d) ∧ ¬ X (M d) ∧ M d ≠ dm
  inj : ∀ d e, D d → D e → d ≠ e → M d ≠ M e
  rng : ∀ d, D d → 1 ≤ d ∧ d ≤ 1024
structure GIn (q dm : Nat) (M : Int → Nat) (X : Nat → Prop) (D : Int → Prop) (Y : Nat → Prop) : Prop where
  q : Y q
  dm : Y dm
  m : ∀ d, D d → Y (M d)
  x : ∀ k, X k → Y k
def GAt (w : World) (q : Nat) (Y : Nat → Prop) (T : TB) (L : List Nm) (par : Int → Int) (D : Int → Prop) (nb : Nat) : Prop := ∃ t dm M X, NdG w q t dm M X T L par D nb ∧ GIn q dm M X D Y
theorem NdG.lts {w : World} {q t dm : Nat} {M : Int → Nat} {X : Nat → Prop} {T : TB} {L : List Nm} {par : Int → Int} {D : Int → Prop} {nb : Nat} (H : NdG w q t dm M X T L par D nb) : GIn q dm M X D (fun k => k < w.heap.size) := by
  obtain ⟨V, h, _⟩ := H.dirs
  exact ⟨H.nds.lt, h.lt, fun d hd => (H.each d hd).1.lt, H.lt⟩
theorem GIn.mono {q dm : Nat} {M : Int → Nat} {X Y Z : Nat → Prop} {D : Int → Prop} (h : GIn q dm M X D Y) (hyz : ∀ k, Y k → Z k) : GIn q dm M X D Z := ⟨hyz _ h.q, hyz _ h.dm, fun d hd => hyz _ (h.m d hd), fun k hk => hyz _ (h.x k hk)⟩
theorem GIn.and {q dm : Nat} {M : Int → Nat} {X Y Z : Nat → Prop} {D : Int → Prop} (h : GIn q dm M X D Y) (h2 : GIn q dm M X D Z) : GIn q dm M X D (fun k => Y k ∧ Z k) := ⟨⟨h.q, h2.q⟩, ⟨h.dm, h2.dm⟩, fun d hd => ⟨h.m d hd, h2.m d hd⟩, fun k hk => ⟨h.x k hk, h2.x k hk⟩⟩
theorem NdG.grownS {w w' : World} {q t dm : Nat} {M : Int → Nat} {X S : Nat → Prop} {T : TB} {L : List Nm} {par : Int → Int} {D : Int → Prop} {nb : Nat} (H : NdG w q t dm M X T L par D nb) (hg : GrownS w w' S) (hn : GIn q dm M X D (fun k => ¬ S k)) : NdG w' q t dm M X T L par D nb := by
  obtain ⟨V, h1, h2⟩ := H.dirs
  exact ⟨H.nds.grownS hg hn.q, H.tab.grownS hg (fun k _ hk => hn.x k hk), fun k hk => Nat.lt_of_lt_of_le (H.lt k hk) hg.size, H.noq, H.nod, ⟨V, mapV_grownS h1 hg hn.dm, h2⟩, fun d hd => ⟨mapV_grownS (H.each d hd).1 hg (hn.m d hd), (H.each d hd).2⟩, H.inj, H.rng⟩
theorem GAt.grownS {w w' : World} {q nb : Nat} {Y S : Nat → Prop} {T : TB} {L : List Nm} {par : Int → Int} {D : Int → Prop} (H : GAt w q Y T L par D nb) (hg : GrownS w w' S) (hd : ∀ k, k < w.heap.size → Y k → ¬ S k) : GAt w' q Y T L par D nb := by
  obtain ⟨t, dm, M, X, h1, h2⟩ := H
  exact ⟨t, dm, M, X, h1.grownS hg ((h1.lts.and h2).mono (fun k hk => hd k hk.1 hk.2)), h2⟩
theorem GAt.below {w w' : World} {q nb : Nat} {Y : Nat → Prop} {T : TB} {L : List Nm} {par : Int → Int} {D : Int → Prop} (H : GAt w q Y T L par D nb) (hb : Below w.heap.size w w') : GAt w' q Y T L par D nb := H.grownS (S := fun _ => False) (grownS_of_below hb) (fun _ _ _ e => e)
theorem NdG.bel {w w' : World} {q t dm : Nat} {M : Int → Nat} {X : Nat → Prop} {T : TB} {L : List Nm} {par : Int → Int} {D : Int → Prop} {nb : Nat} (H : NdG w q t dm M X T L par D nb) (hb : Below w.heap.size w w') : NdG w' q t dm M X T L par D nb := H.grownS (S := fun _ => False) (grownS_of_below hb) ⟨fun e => e, fun e => e, fun _ _ e => e, fun _ _ e => e⟩
/-- The table turned. -/
theorem NdG.table {w w' : World} {q t dm : Nat} {M : Int → Nat} {X : Nat → Prop} {T T' : TB} {L : List Nm} {par : Int → Int} {D : Int → Prop} {nb : Nat} (H : NdG w q t dm M X T L par D nb) (h1 : TAt w' t (Fresh w X) T' nb) (h2 : GrownS w w' (Fresh w X)) : NdG w' q t dm M (Upto w' (Fresh w X)) T' L par D nb := by
  have lt := H.lts
  have nf : ∀ k, k < w.heap.size → ¬ X k → ¬ Fresh w X k := fun k hk hx h => h.elim hx (fun h => by omega)
  have nu : ∀ k, k < w.heap.size → ¬ X k → ¬ Upto w' (Fresh w X) k := fun k hk hx h => nf k hk hx h.1
  obtain ⟨V, d1, d2⟩ := H.dirs
  exact ⟨H.nds.grownS h2 (nf q lt.q H.noq), h1.mono (fun _ hk hx => ⟨hx, hk⟩), fun _ hk => hk.2, nu q lt.q H.noq, nu dm lt.dm H.nod, ⟨V, mapV_grownS d1 h2 (nf dm lt.dm H.nod), d2⟩, fun d hd => by
    have e := H.each d hd
    exact ⟨mapV_grownS e.1 h2 (nf _ e.1.lt e.2.1), nu _ e.1.lt e.2.1, e.2.2⟩, H.inj, H.rng⟩
theorem GIn.table {w w' : World} {q dm : Nat} {M : Int → Nat} {X Y : Nat → Prop} {D : Int → Prop} (h : GIn q dm M X D Y) (hY : ∀ k, w.heap.size ≤ k → Y k) : GIn q dm M (Upto w' (Fresh w X)) D Y :=
  ⟨h.q, h.dm, h.m, fun k hk => hk.1.elim (h.x k) (hY k)⟩
/-- A directory's names turned. -/
theorem NdG.names {w w' : World} {q t dm : Nat} {M : Int → Nat} {X : Nat → Prop} {T : TB} {L L' : List Nm} {par : Int → Int} {D : Int → Prop} {nb : Nat} (H : NdG w q t dm M X T L par D nb) {d : Int} (hd : D d) (h1 : MapV w' 9 (M d) (datN L' d)) (h2 : GrownS w w' (fun k => k = M d)) (ho : ∀ e, e ≠ d → datN L' e = datN L e) : NdG w' q t dm M X T L' par D nb := by
  obtain ⟨V, d1, d2⟩ := H.dirs
  have e := H.each d hd
  exact ⟨H.nds.grownS h2 (fun e2 => blk_mapV H.nds e.1 e2), H.tab.grownS h2 (fun k _ hx e2 => e.2.1 (by rw [← e2]; exact hx)), fun k hk => Nat.lt_of_lt_of_le (H.lt k hk) h2.size, H.noq, H.nod, ⟨V, mapV_grownS d1 h2 (fun e2 => e.2.2 e2.symm), d2⟩, fun c hc => by
    by_cases hcd : c = d
    · subst hcd; exact ⟨h1, e.2⟩
    · rw [ho c hcd]
      exact ⟨mapV_grownS (H.each c hc).1 h2 (H.inj c d hc hd hcd), (H.each c hc).2⟩, H.inj, H.rng⟩
theorem turned_grownS {w w' : World} {b : Nat} (h : w.mapTurned w' b) : GrownS w w' (fun k => k = b) := by
  have := GrownS.of h.grown (S := fun k => k = b) (fun k e => by simpa using e)
  exact ⟨this.os, this.tape, this.output, this.size, this.block⟩
/-- n.dirs[d] of a directory that has an entry. -/
theorem NdG.look {w : World} {q t dm : Nat} {M : Int → Nat} {X : Nat → Prop} {T : TB} {L : List Nm} {par : Int → Int} {D : Int → Prop} {nb : Nat} (H : NdG w q t dm M X T L par D nb) {d : Int} (hd : D d) (hb : -9223372036854775808 ≤ d ∧ d ≤ 9223372036854775807) : (Instr.lookup 95 (.map (some dm)) (.int .i64 d) false).run Tryz.prog w = .ok (.agg #[.int .i64 (par d), .map (some (M d))]) w := by
  obtain ⟨V, h1, h2, _⟩ := H.dirs
  obtain ⟨v, ps, h3, h4⟩ := h1.lookup lawI und_dirs (zero_dir w) (zd := .held zeroDir) (zp := []) rfl (keyI (wf64 hb))
  have hv : V.atKey (.int .i64 d) (.held zeroDir) = .held v := (Prod.mk.inj (Option.some.inj h4)).1.symm
  rw [h3]
  rw [h2 d hd] at hv
  rw [← DataW.held.inj hv]
  rfl
/-- names[n] = i. -/
theorem NdG.put {w : World} {q t dm : Nat} {M : Int → Nat} {X : Nat → Prop} {T : TB} {L : List Nm} {par : Int → Int} {D : Int → Prop} {nb : Nat} (H : NdG w q t dm M X T L par D nb) {x : Nm} (hd : D x.dir) (hs : Srt L) (hno : ∀ y ∈ L, ¬ (y.dir = x.dir ∧ y.name = x.name)) (hn : x.name.length ≤ 1000000) (hl : L.length ≤ 1000000) : ∃ w', (Instr.mapUpdate 147 (.map (some (M x.dir))) (.string (BA x.name)) (.int .i64 x.node)).run Tryz.prog w = .ok () w' ∧ NdG w' q t dm M X T (putL L x) par D nb ∧ GrownS w w' (fun k => k = M x.dir) := by
  have hsz : Maps.size (datN L x.dir) ≤ 1000000 := by
    rw [dat_size, inL_len]
    exact Nat.le_trans List.countP_le_length hl
  obtain ⟨w', h1, h2, h3⟩ := (H.each x.dir hd).1.store strKeyed und_names (by unfold maxLen; omega) (hk_str x.name (by unfold maxLen; omega)) (val := .int .i64 x.node) (d := .held (.int .i64 x.node)) (ps := []) rfl
  have hc := h2.canon strKeyed
  rw [dat_put hs hno hc] at h2
  exact ⟨w', h1, H.names hd (mapV_tight h2) (turned_grownS h3) (fun e he => dat_put_other (Ne.symm he)), turned_grownS h3⟩
/-- delete(names, n). -/
theorem NdG.drop {w : World} {q t dm : Nat} {M : Int → Nat} {X : Nat → Prop} {T : TB} {L : List Nm} {par : Int → Int} {D : Int → Prop} {nb : Nat} (H : NdG w q t dm M X T L par D nb) {d : Int} (n : List UInt8) (hd : D d) (hn : n.length ≤ 1000000) : ∃ w', (Builtin.delete_ #[147, 9] 0 #[.map (some (M d)), .string (BA n)]).run Tryz.prog w = .ok (.tuple #[]) w' ∧ NdG w' q t dm M X T (dropL L d n) par D nb ∧ GrownS w w' (fun k => k = M d) := by
  obtain ⟨w', h1, h2, h3⟩ := (H.each d hd).1.drop strKeyed und_names (hk_str n (by unfold maxLen; omega)) 0
  rw [dat_del] at h2
  exact ⟨w', h1, H.names hd (mapV_tight h2) (turned_grownS h3) (fun e he => dat_drop_other (Ne.symm he)), turned_grownS h3⟩
/-- n.dirs[d] = directory{p, m}. -/
theorem NdG.setDir {w : World} {q t dm : Nat} {M : Int → Nat} {X : Nat → Prop} {T : TB} {L : List Nm} {par : Int → Int} {D : Int → Prop} {nb : Nat} (H : NdG w q t dm M X T L par D nb) {d p : Int} (m : Nat) (hb : -9223372036854775808 ≤ d ∧ d ≤ 9223372036854775807) (hm : MapV w 9 m (datN L d)) (hX : ¬ X m) (hdm : m ≠ dm) (hi : ∀ e, D e → e ≠ d → M e ≠ m) (hrd : 1 ≤ d ∧ d ≤ 1024) : ∃ w', (Instr.mapUpdate 95 (.map (some dm)) (.int .i64 d) (.agg #[.int .i64 p, .map (some m)])).run Tryz.prog w = .ok () w' ∧ NdG w' q t dm (fun k => if k = d then m else M k) X T L (parU par d p) (fun k => k = d ∨ D k) nb ∧ GrownS w w' (fun k => k = dm) := by
  obtain ⟨V, d1, d2, d3⟩ := H.dirs
  have hlt := dirs_size d1 (fun c hc => d3 c (fun h => hc (H.rng c h)))
  obtain ⟨w', h1, h2, h3⟩ := d1.store lawI und_dirs (by unfold maxLen; omega) (keyI (wf64 hb)) (val := .agg #[.int .i64 p, .map (some m)]) (d := .held (dirV p m)) (ps := []) rfl
  have hg := turned_grownS h3
  have hV : Maps.IsMap V := d1.isMap
  refine ⟨w', h1, ⟨H.nds.grownS hg (fun e => blk_mapV H.nds d1 e), H.tab.grownS hg (fun k _ hx e => H.nod (by rw [← e]; exact hx)), fun k hk => Nat.lt_of_lt_of_le (H.lt k hk) hg.size, H.noq, H.nod, ⟨_, mapV_tight h2, fun c hc z => ?_, fun c hc => ?_⟩, fun c hc => ?_, fun c e hc he hce => ?_, fun c hc => hc.elim (fun e => by rw [e]; exact hrd) (H.rng c)⟩, hg⟩
  · by_cases h : c = d
    · subst h
      rw [atKey_put_same hV (isKey c)]
      simp [parU]
    · rw [atKey_put_other (key_ne h), d2 c (hc.resolve_left h)]
      simp [parU, h]
  · rw [has_put_other (key_ne (fun e => hc (.inl e))), d3 c (fun e => hc (.inr e))]
  · by_cases h : c = d
    · subst h
      simp only [if_pos]
      exact ⟨mapV_grownS hm hg hdm, hX, hdm⟩
    · simp only [if_neg h]
      have e := H.each c (hc.resolve_left h)
      exact ⟨mapV_grownS e.1 hg e.2.2, e.2⟩
  · by_cases h : c = d
    · by_cases h2 : e = d
      · exact absurd (h.trans h2.symm) hce
      · simp only [if_pos h, if_neg h2]
        exact (hi e (he.resolve_left h2) h2).symm
    · by_cases h2 : e = d
      · simp only [if_neg h, if_pos h2]
        exact hi c (hc.resolve_left h) h
      · simp only [if_neg h, if_neg h2]
        exact H.inj c e (hc.resolve_left h) (he.resolve_left h2) hce
/-- delete(n.dirs, d). -/
theorem NdG.delDir {w : World} {q t dm : Nat} {M : Int → Nat} {X : Nat → Prop} {T : TB} {L : List Nm} {par : Int → Int} {D : Int → Prop} {nb : Nat} (H : NdG w q t dm M X T L par D nb) {d : Int} (hb : -9223372036854775808 ≤ d ∧ d ≤ 9223372036854775807) : ∃ w', (Builtin.delete_ #[95, 3] 0 #[.map (some dm), .int .i64 d]).run Tryz.prog w = .ok (.tuple #[]) w' ∧ NdG w' q t dm M X T L par (fun k => k ≠ d ∧ D k) nb ∧ GrownS w w' (fun k => k = dm) := by
  obtain ⟨V, d1, d2, d3⟩ := H.dirs
  obtain ⟨w', h1, h2, h3⟩ := d1.drop lawI und_dirs (keyI (wf64 hb)) 0
  have hg := turned_grownS h3
  refine ⟨w', h1, ⟨H.nds.grownS hg (fun e => blk_mapV H.nds d1 e), H.tab.grownS hg (fun k _ hx e => H.nod (by rw [← e]; exact hx)), fun k hk => Nat.lt_of_lt_of_le (H.lt k hk) hg.size, H.noq, H.nod, ⟨_, mapV_tight h2, fun c hc z => ?_, fun c hc => ?_⟩, fun c hc => ?_, fun c e hc he hce => H.inj c e hc.2 he.2 hce, fun c hc => H.rng c hc.2⟩, hg⟩
  · rw [atKey_del_other (key_ne hc.1)]
    exact d2 c hc.2 z
  · by_cases h : c = d
    · rw [h, has_del_same]
    · rw [has_del_other (key_ne h)]
      exact d3 c (fun e => hc ⟨h, e⟩)
  · have e := H.each c hc.2
    exact ⟨mapV_grownS e.1 hg e.2.2, e.2⟩

end Go.Proofs.YtnpeiibecihleaaGreatDoor

/- Sorted keys of maps: contracts of the shelf at this program. -/
namespace Go.Proofs
open Go.RowKit Go.Maps Go.Sort Go.Shelf

/-- slices.Sort's two contracts at this dump, at the fence that asks nothing. -/
theorem Tryz.sorts133 (m : Nat) : AnyZ.SortsIn Tryz.prog Tryz.sorted133_ren Fence.wide m :=
  ⟨fun blk off cap ss W hH hblk hsz => callsIn_wide.2 (AnyM.slices_Sort_string Tryz.sort157 blk off cap ss W hH hblk hsz),
   fun p cap W => callsIn_wide.2 (AnyM.slices_Sort_string_none Tryz.sort157 p cap W)⟩

theorem Tryz.maps_Keys_134 (mb : Option Nat) (W : World) : CallsIn Fence.wide 5 Tryz.prog 134 #[.map mb] W fun e w' => e = .returned (.func (.func 158) #[] #[.pointer (some ⟨W.heap.size, 0, none⟩)]) ∧ w' = W.alloc (.cells #[.map mb] 147) :=
  AnyZ.keys_in Tryz.keys134 Fence.wide 5 trivial rfl mb W

set_option maxHeartbeats 1000000 in
theorem Tryz.slices_Sorted_keys_133_134 {H : Type} (b nn : Nat) (D0 : DataW H) (R : Value → Option (DataW H × List MemPlace)) (w : World) (hown : w.ownsMap Tryz.prog 9 R b nn D0) (hmax : Maps.size D0 ≤ maxLen) (hbytes : Maps.size D0 * 16 ≤ 140737488355328) :
    CallsIn Fence.wide 5 Tryz.prog 133 #[.func (.func 158) #[] #[.pointer (some ⟨w.heap.size, 0, none⟩)]] (w.alloc (.cells #[.map (some b)] 147)) fun e w' => ∃ (v : Value) (ss : List (List UInt8)), e = .returned v ∧ ss.Perm (strKeys D0) ∧
      w'.ownsRow (w.alloc (.cells #[.map (some b)] 147)).heap.size 9 1 v ss.length ((ss.mergeSort (fun x y => decide (x ≤ y))).map encStr) ∧ (v = .slice none 0 0 ↔ ss = []) ∧ Below (w.alloc (.cells #[.map (some b)] 147)).heap.size (w.alloc (.cells #[.map (some b)] 147)) w' := by
  have hbl := hown.lt
  have hseq : SeqGives Fence.wide 2 Tryz.prog 158 #[.pointer (some ⟨w.heap.size, 0, none⟩)] encStr (fun ss => ss.Perm (strKeys D0)) (Maps.size D0) (w.alloc (.cells #[.map (some b)] 147)) :=
    AnyZ.keys_gives (ρ := Tryz.keys134_ren) { Tryz.keys134 with } Fence.wide _ trivial rfl (by omega) w.heap.size b nn D0 _ (by simp) (by simp) (by
      obtain ⟨es, clock, hb, Ft, hs, hD⟩ := hown
      exact ⟨es, clock, (Below.heap_alloc _ _ b hbl).trans hb, Ft, hs, hD⟩)
  exact AnyZ.sorted_in Tryz.sorted133 Fence.wide 5 trivial trivial trivial trivial rfl (by omega) (Tryz.sorts133 _) (enters_of Tryz.func157 (by kernel_rfl) rfl) 158 #[.pointer (some ⟨w.heap.size, 0, none⟩)] trivial (enters_of Tryz.func158 (by kernel_rfl) rfl) _ _ hmax hbytes _ hseq

set_option maxHeartbeats 1000000 in
theorem Tryz.slices_Sorted_keys_nil_133_134 (w : World) :
    CallsIn Fence.wide 5 Tryz.prog 133 #[.func (.func 158) #[] #[.pointer (some ⟨w.heap.size, 0, none⟩)]] (w.alloc (.cells #[.map none] 147)) fun e w' => ∃ (v : Value) (ss : List (List UInt8)), e = .returned v ∧ ss = [] ∧
      w'.ownsRow (w.alloc (.cells #[.map none] 147)).heap.size 9 1 v ss.length ((ss.mergeSort (fun x y => decide (x ≤ y))).map encStr) ∧ (v = .slice none 0 0 ↔ ss = []) ∧ Below (w.alloc (.cells #[.map none] 147)).heap.size (w.alloc (.cells #[.map none] 147)) w' := by
  have hseq : SeqGives Fence.wide 2 Tryz.prog 158 #[.pointer (some ⟨w.heap.size, 0, none⟩)] encStr (fun ss : List (List UInt8) => ss = []) 0 (w.alloc (.cells #[.map none] 147)) :=
    AnyZ.keys_gives_nil (ρ := Tryz.keys134_ren) { Tryz.keys134 with } Fence.wide _ trivial rfl w.heap.size _ (by simp) (by simp)
  exact AnyZ.sorted_in Tryz.sorted133 Fence.wide 5 trivial trivial trivial trivial rfl (by omega) (Tryz.sorts133 _) (enters_of Tryz.func157 (by kernel_rfl) rfl) 158 #[.pointer (some ⟨w.heap.size, 0, none⟩)] trivial (enters_of Tryz.func158 (by kernel_rfl) rfl) _ 0 (Nat.zero_le _) (by omega) _ hseq

/-- slices.Sort's two contracts at this dump, at the fence that asks nothing. -/
theorem Tryz.sorts142 (m : Nat) : AnyZI.SortsIn Tryz.prog Tryz.sorted142_ren Fence.wide m :=
  ⟨fun blk off cap ss W hH hblk hsz => callsIn_wide.2 (AnyM.slices_Sort_int Tryz.sort164 blk off cap ss W hH hblk hsz),
   fun p cap W => callsIn_wide.2 (AnyM.slices_Sort_int_none Tryz.sort164 p cap W)⟩

theorem Tryz.maps_Keys_143 (mb : Option Nat) (W : World) : CallsIn Fence.wide 5 Tryz.prog 143 #[.map mb] W fun e w' => e = .returned (.func (.func 165) #[] #[.pointer (some ⟨W.heap.size, 0, none⟩)]) ∧ w' = W.alloc (.cells #[.map mb] 95) :=
  AnyZI.keys_in Tryz.keys143 Fence.wide 5 trivial rfl mb W

set_option maxHeartbeats 1000000 in
theorem Tryz.slices_Sorted_keys_142_143 {H : Type} (b nn : Nat) (D0 : DataW H) (R : Value → Option (DataW H × List MemPlace)) (w : World) (hown : w.ownsMap Tryz.prog 3 R b nn D0) (hmax : Maps.size D0 ≤ maxLen) (hbytes : Maps.size D0 * 8 ≤ 140737488355328) :
    CallsIn Fence.wide 5 Tryz.prog 142 #[.func (.func 165) #[] #[.pointer (some ⟨w.heap.size, 0, none⟩)]] (w.alloc (.cells #[.map (some b)] 95)) fun e w' => ∃ (v : Value) (ss : List Int), e = .returned v ∧ ss.Perm (intKeys D0) ∧
      w'.ownsRow (w.alloc (.cells #[.map (some b)] 95)).heap.size 3 1 v ss.length ((ss.mergeSort (fun x y => decide (x ≤ y))).map encZ) ∧ (v = .slice none 0 0 ↔ ss = []) ∧ Below (w.alloc (.cells #[.map (some b)] 95)).heap.size (w.alloc (.cells #[.map (some b)] 95)) w' := by
  have hbl := hown.lt
  have hseq : SeqGives Fence.wide 2 Tryz.prog 165 #[.pointer (some ⟨w.heap.size, 0, none⟩)] encZ (fun ss => ss.Perm (intKeys D0)) (Maps.size D0) (w.alloc (.cells #[.map (some b)] 95)) :=
    AnyZI.keys_gives (ρ := Tryz.keys143_ren) { Tryz.keys143 with } Fence.wide _ trivial rfl (by omega) w.heap.size b nn D0 _ (by simp) (by simp) (by
      obtain ⟨es, clock, hb, Ft, hs, hD⟩ := hown
      exact ⟨es, clock, (Below.heap_alloc _ _ b hbl).trans hb, Ft, hs, hD⟩)
  exact AnyZI.sorted_in Tryz.sorted142 Fence.wide 5 trivial trivial trivial trivial rfl (by omega) (Tryz.sorts142 _) (enters_of Tryz.func164 (by kernel_rfl) rfl) 165 #[.pointer (some ⟨w.heap.size, 0, none⟩)] trivial (enters_of Tryz.func165 (by kernel_rfl) rfl) _ _ hmax hbytes _ hseq

set_option maxHeartbeats 1000000 in
theorem Tryz.slices_Sorted_keys_nil_142_143 (w : World) :
    CallsIn Fence.wide 5 Tryz.prog 142 #[.func (.func 165) #[] #[.pointer (some ⟨w.heap.size, 0, none⟩)]] (w.alloc (.cells #[.map none] 95)) fun e w' => ∃ (v : Value) (ss : List Int), e = .returned v ∧ ss = [] ∧
      w'.ownsRow (w.alloc (.cells #[.map none] 95)).heap.size 3 1 v ss.length ((ss.mergeSort (fun x y => decide (x ≤ y))).map encZ) ∧ (v = .slice none 0 0 ↔ ss = []) ∧ Below (w.alloc (.cells #[.map none] 95)).heap.size (w.alloc (.cells #[.map none] 95)) w' := by
  have hseq : SeqGives Fence.wide 2 Tryz.prog 165 #[.pointer (some ⟨w.heap.size, 0, none⟩)] encZ (fun ss : List Int => ss = []) 0 (w.alloc (.cells #[.map none] 95)) :=
    AnyZI.keys_gives_nil (ρ := Tryz.keys143_ren) { Tryz.keys143 with } Fence.wide _ trivial rfl w.heap.size _ (by simp) (by simp)
  exact AnyZI.sorted_in Tryz.sorted142 Fence.wide 5 trivial trivial trivial trivial rfl (by omega) (Tryz.sorts142 _) (enters_of Tryz.func164 (by kernel_rfl) rfl) 165 #[.pointer (some ⟨w.heap.size, 0, none⟩)] trivial (enters_of Tryz.func165 (by kernel_rfl) rfl) _ 0 (Nat.zero_le _) (by omega) _ hseq

end Go.Proofs

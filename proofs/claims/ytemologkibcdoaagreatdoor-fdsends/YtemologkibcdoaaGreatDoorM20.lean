/-
  Directories (stage 13): walkFrom; a path's last part, as the library cuts it.
  Directories (stage 13): placeOf.
-/
import Derived.Test.YtemologkibcdoaaGreatDoorM19
import Derived.Lib.TrimByte
import Derived.Lib.LastIndexByte

/- Directories (stage 13): walkFrom; a path's last part, as the library cuts it. -/
namespace Go.Proofs.YtemologkibcdoaaGreatDoor
open Go.RowKit Go.Maps

theorem trim_is (p : List UInt8) : Lib.trimRightB p 47 = stripN p := by
  unfold Lib.trimRightB stripN
  congr 2
theorem take_app {a b l : List UInt8} (h : a ++ b = l) : l.take a.length = a ∧ l.drop a.length = b := by subst h; simp
theorem get_bang (l : List UInt8) (j : Nat) (h : j < l.length) : (BA l).data[j]! = l[j] := by
  show l.toArray[j]! = _
  simp [h]
theorem last_index (l : List UInt8) : Lib.lastIndexByte (BA l) 47 + 1 = ((aheadN l).length : Int) := by
  have hl := ahead_last l
  have hz := last_no l
  have hlen : (aheadN l).length + (lastN l).length = l.length := by rw [← List.length_append, hl]
  have hA : ∀ j, (h : j < (aheadN l).length) → l[j]? = some ((aheadN l)[j]) := fun j h => by
    conv => lhs; rw [← hl]
    rw [List.getElem?_append_left h, List.getElem?_eq_getElem h]
  have hZ : ∀ j, (aheadN l).length ≤ j → (h : j < l.length) → l[j] ≠ 47 := fun j h1 h2 e => by
    have h3 : l[j]? = some 47 := by rw [List.getElem?_eq_getElem h2, e]
    rw [← hl, List.getElem?_append_right h1] at h3
    exact hz 47 (List.mem_of_getElem? h3) rfl
  rcases Lib.lastIndexByte_spec (BA l) 47 with ⟨h1, h2⟩ | ⟨i, hi, h1, h2, h3⟩
  · rw [h1]
    by_cases hA0 : aheadN l = []
    · rw [hA0]; rfl
    · obtain ⟨q, hq⟩ := ahead_snoc hA0
      have h4 : l[q.length]? = some 47 := by
        rw [← hl, hq, List.append_assoc, List.getElem?_append_right (Nat.le_refl _)]
        simp
      have h5 : q.length < l.length := (List.getElem?_eq_some_iff.1 h4).1
      have h6 := h2 q.length (by rw [BA_size]; exact h5)
      rw [get_bang l _ h5] at h6
      rw [List.getElem?_eq_getElem h5] at h4
      rw [Option.some.inj h4] at h6
      exact absurd rfl h6
  · rw [BA_size] at hi
    rw [get_bang l i hi] at h2
    have h2' : l[i] = 47 := by
      apply UInt8.toNat_inj.1
      have : (l[i].toNat : Int) = 47 := h2
      show l[i].toNat = 47
      omega
    have hlt : i < (aheadN l).length := by
      rcases Nat.lt_or_ge i (aheadN l).length with h | h
      · exact h
      · exact absurd h2' (hZ i h hi)
    have hne : aheadN l ≠ [] := fun e => by rw [e] at hlt; exact absurd hlt (Nat.not_lt_zero _)
    obtain ⟨q, hq⟩ := ahead_snoc hne
    have hql : (aheadN l).length = q.length + 1 := by rw [hq]; simp
    have h4 : l[q.length]? = some 47 := by
      rw [← hl, hq, List.append_assoc, List.getElem?_append_right (Nat.le_refl _)]
      simp
    have h5 : q.length < l.length := (List.getElem?_eq_some_iff.1 h4).1
    rw [h1]
    rcases Nat.lt_or_ge i q.length with h6 | h6
    · have h7 := h3 q.length h6 (by rw [BA_size]; exact h5)
      rw [get_bang l _ h5] at h7
      rw [List.getElem?_eq_getElem h5] at h4
      rw [Option.some.inj h4] at h7
      exact absurd rfl h7
    · omega
theorem trim_any (p : List UInt8) (w : World) (hp : p.length ≤ 100000) : Calls Tryz.prog 76 #[.string (BA p), .string ⟨#[47]⟩] w fun e w' => e = .returned (.string (BA (stripN p))) ∧ w' = w := by
  have h := Tryz.strings_TrimRight_one (BA p) 47 (by decide) w (by rw [BA_size]; omega)
  rw [show Lib.trimRightB (BA p).data.toList 47 = stripN p from trim_is p] at h
  exact h
theorem lastIdx_any (p : List UInt8) (w : World) (hp : p.length ≤ 100000) : Calls Tryz.prog 77 #[.string (BA p), .string ⟨#[47]⟩] w fun e w' => e = .returned (.int .i64 (((aheadN p).length : Int) - 1)) ∧ w' = w := by
  have h := Tryz.strings_LastIndex_one (BA p) ⟨#[47]⟩ rfl (by rw [BA_size]; omega) w
  have e : Lib.lastIndexByte (BA p) 47 = ((aheadN p).length : Int) - 1 := by have := last_index p; omega
  rw [show Lib.lastIndexByte (BA p) (((⟨#[47]⟩ : ByteArray)[0]'(by decide)).toNat : Int) = ((aheadN p).length : Int) - 1 from e] at h
  exact h
theorem strip_le (p : List UInt8) : (stripN p).length ≤ p.length := by
  unfold stripN
  rw [List.length_reverse]
  have := (List.dropWhile_sublist (fun c => decide (c = 47)) (l := p.reverse)).length_le
  simpa using this
theorem ext_ahead (p : List UInt8) : (BA p).extract 0 (aheadN p).length = BA (aheadN p) := by
  have := extract_take (BA p) 0 (aheadN p).length
  rw [Nat.zero_add] at this
  rw [this, BA_list, List.drop_zero]
  rw [(take_app (ahead_last p)).1]
theorem ext_last (p : List UInt8) : (BA p).extract (aheadN p).length p.length = BA (lastN p) := by
  have := extract_end (BA p) (aheadN p).length
  rw [BA_size] at this
  rw [this, BA_list]
  rw [(take_app (ahead_last p)).2]
theorem NdX.tight {w : World} {q nb n : Nat} {B : Bas} {Y : Nat → Prop} {s : NS} (H : NdX w q Y s nb n B) : NdX w q (Upto w Y) s nb n B := ⟨H.at'.mono (fun _ hk hy => ⟨hy, hk⟩), H.ok, H.env, fun k hk => H.yb k hk.1⟩
set_option maxRecDepth 20000 in
set_option maxHeartbeats 1000000 in
theorem walkFrom_any {w : World} {q nb n : Nat} {B : Bas} {Y : Nat → Prop} {s : NS} (H : NdX w q Y s nb n B) (d : Int) (p : List UInt8) (f : Bool) (h0 : 0 ≤ d) (h1 : d ≤ 1024) (hp : p.length ≤ 100000) : Calls Tryz.prog 45 #[.pointer (some ⟨q, 0, none⟩), .int .i64 d, .string (BA p), .bool f] w fun e w' => e = .returned (.tuple #[.int .i64 (goesN s 8 d p f 8).1, .int .i64 (goesN s 8 d p f 8).2.1]) ∧ Below w.heap.size w w' := by
  have hnew := Blk.new w 147 #[.pointer (some ⟨q, 0, none⟩), .int .i64 0]
  have hbw : Below w.heap.size w (w.alloc (.cells #[.pointer (some ⟨q, 0, none⟩), .int .i64 0] 147)) := (Below.refl _ w).alloc (Nat.le_refl _) _
  have HW : Hid (Wk (w.alloc (.cells #[.pointer (some ⟨q, 0, none⟩), .int .i64 0] 147)) w.heap.size q (Upto w Y) s nb n B 8) := hide ⟨H.tight.below hbw, hnew, fun h => by have := h.2; omega, H.env.le _ (Nat.le_refl _), Nat.le_refl _⟩
  obtain ⟨R, hR⟩ : ∃ R, R = goesN s 8 d p f 8 := ⟨_, rfl⟩
  have HA := hide (along_any (b := w.heap.size) (q := q) (nb := nb) (n := n) (B := B) (Y := Upto w Y) (s := s) 8 _ d p f 8 (unhide HW) (Nat.le_refl _) h0 h1 hp)
  rw [← hR] at HA ⊢
  have HB := hide hbw
  clear hR hnew hbw HW H
  go_enter Tryz.func45, Tryz.ntmps45
  go_wp2_with fail
  refine (unhide HA).mono ?_
  rintro e w1 ⟨rfl, HX⟩
  go_wp2_with fail
  go_ret2
  refine ⟨rfl, (unhide HB).trans ((unhide HX).2.below (unhide HB).size (fun k e => by rw [e]; exact Nat.le_refl _))⟩

end Go.Proofs.YtemologkibcdoaaGreatDoor

/- Directories (stage 13): placeOf. -/
namespace Go.Proofs.YtemologkibcdoaaGreatDoor
open Go.RowKit Go.Maps

theorem res_place2 {fn : Func} {t u : Tmp} (h : fn.results = #[.cell t 85, .tmp u]) (tmps : Array Value) (w : World) (b : Nat) (x0 x1 : Value) (ht : tmps.getD t undef = .pointer (some ⟨b, 0, none⟩))
    (h0 : w.cell? ⟨b, 0, none⟩ = some x0) (h1 : w.cell? ⟨b, 1, none⟩ = some x1) :
    (results fn tmps).run Tryz.prog w = .ok (.tuple #[.agg #[x0, x1], tmps.getD u undef]) w := by
  have ht' : tmps[t]?.getD undef = .pointer (some ⟨b, 0, none⟩) := by simpa using ht
  unfold results
  rw [h]
  simp [ht', go_sem, h0, h1]
/-- What placeOf answers. -/
def PlcIs (R : Int × List UInt8 × Int) (N : Int) (t : List UInt8) (E : Int) : Prop := E = R.2.2 ∧ (R.2.2 = 0 → N = R.1 ∧ t = R.2.1) ∧ t.length ≤ 100000 ∧ 0 ≤ N ∧ N ≤ 1024
theorem plc_no {R : Int × List UInt8 × Int} {E : Int} (h : R.2.2 = E) (hE : E ≠ 0) : PlcIs R 0 [] E := ⟨h.symm, fun e => absurd (h.symm.trans e) hE, Nat.zero_le _, by decide, by decide⟩
theorem plc_ok {R : Int × List UInt8 × Int} {N : Int} {t : List UInt8} (h : R = (N, t, 0)) (ht : t.length ≤ 100000) (h0 : 0 ≤ N) (h1 : N ≤ 1024) : PlcIs R N t 0 := by
  subst h
  exact ⟨rfl, fun _ => ⟨rfl, rfl⟩, ht, h0, h1⟩
theorem below_set2 {w W : World} {pb : Nat} (hb : Below w.heap.size w W) (hp : w.heap.size ≤ pb) (u v : Value) : Below w.heap.size w ((W.setCell ⟨pb, 0, none⟩ u).setCell ⟨pb, 1, none⟩ v) := by
  have g1 : GrownS W (W.setCell ⟨pb, 0, none⟩ u) (fun k => k = pb) := GrownS.of (grown_setCell W _ _) (fun k e => by simpa using e)
  have g2 : GrownS (W.setCell ⟨pb, 0, none⟩ u) ((W.setCell ⟨pb, 0, none⟩ u).setCell ⟨pb, 1, none⟩ v) (fun k => k = pb) := GrownS.of (grown_setCell _ _ _) (fun k e => by simpa using e)
  exact hb.trans ((g1.trans g2).below hb.size (fun k e => by rw [e]; exact hp))
theorem place_is {s : NS} {d : Int} {p : List UInt8} (hd : isD s d = true) : placeN s d p = if p = [] then (0, [], 23) else if lastN (stripN p) = [] ∨ lastN (stripN p) = [46] ∨ lastN (stripN p) = [46, 46] then (0, [], 1) else if 256 < p.length ∨ 32 < (lastN (stripN p)).length then (0, [], 3) else if aheadN (stripN p) = [] then (d, lastN (stripN p), 0) else ((goesN s 8 d (aheadN (stripN p)) true 8).1, lastN (stripN p), (goesN s 8 d (aheadN (stripN p)) true 8).2.1) := by
  unfold placeN
  rw [if_neg (by rw [hd]; decide)]
  split
  · rfl
  · split
    · rfl
    · split
      · rfl
      · by_cases h : aheadN (stripN p) = []
        · rw [if_pos h, if_pos h]
        · rw [if_neg h, if_neg h]
          unfold walkN
          rw [if_pos hd]
          dsimp only
          obtain ⟨q, hq⟩ := ahead_snoc h
          rw [hq]
          rw [if_neg]
          rintro ⟨h1, h2⟩
          rw [goes_dir h1] at h2
          cases h2
theorem last_le (p : List UInt8) : (lastN p).length ≤ p.length := by
  have := ahead_last p
  have h2 : (aheadN p).length + (lastN p).length = p.length := by rw [← List.length_append, this]
  omega
theorem ahead_le (p : List UInt8) : (aheadN p).length + (lastN p).length = p.length := by
  rw [← List.length_append, ahead_last]
set_option maxRecDepth 20000 in
set_option maxHeartbeats 4000000 in
theorem placeOf_any {w : World} {q nb n : Nat} {B : Bas} {Y : Nat → Prop} {s : NS} (H : NdX w q Y s nb n B) (d : Int) (p : List UInt8) (h0 : 0 ≤ d) (h1 : d ≤ 1024) (hp : p.length ≤ 100000) (hd : isD s d = true) : Calls Tryz.prog 57 #[.pointer (some ⟨q, 0, none⟩), .int .i64 d, .string (BA p)] w fun e w' => ∃ N t E, e = .returned (.tuple #[.agg #[.int .i64 N, .string (BA t)], .int .i64 E]) ∧ Hid (PlcIs (placeN s d p) N t E ∧ Below w.heap.size w w') := by
  have HPL := hide (place_is (p := p) hd)
  obtain ⟨RR, hRR⟩ : ∃ RR, RR = placeN s d p := ⟨_, rfl⟩
  rw [← hRR] at HPL ⊢
  clear hRR
  have he := emp_eq p
  have hbw : Below w.heap.size w (w.alloc (.cells #[.int .i64 0, .string ⟨#[]⟩] 85)) := (Below.refl _ w).alloc (Nat.le_refl _) _
  have hnew := Blk.new w 85 #[.int .i64 0, .string ⟨#[]⟩]
  have hfin : ∀ (w' : World) (N : Int) (t : List UInt8), Blk w' w.heap.size 85 #[.int .i64 N, .string (BA t)] → w'.cell? ⟨w.heap.size, 0, none⟩ = some (.int .i64 N) ∧ w'.cell? ⟨w.heap.size, 1, none⟩ = some (.string (BA t)) := fun w' N t h => ⟨h.cell 0 rfl, h.cell 1 rfl⟩
  by_cases hb0 : p = []
  · rw [decide_eq_true hb0] at he
    have HA : Hid (RR = (0, [], 23)) := hide (by rw [unhide HPL, if_pos hb0])
    have HB := hide hbw
    have HN := hide hnew
    clear H hb0 HPL hbw hnew hfin
    go_enter Tryz.func57, Tryz.ntmps57
    go_wp2_with fail
    refine bodyPost_ret (res_place2 rfl _ _ w.heap.size _ _ rfl ((unhide HN).cell 0 rfl) ((unhide HN).cell 1 rfl)) rfl ⟨0, [], 23, rfl, hide ⟨plc_no (by rw [unhide HA]) (by decide), unhide HB⟩⟩
  · rw [decide_eq_false hb0] at he
    have HTR := hide (fun W => trim_any p W hp)
    have hsl := strip_le p
    obtain ⟨sp, hsp⟩ : ∃ sp, sp = stripN p := ⟨_, rfl⟩
    rw [← hsp] at HTR HPL hsl
    have HLI := hide (fun W => lastIdx_any sp W (by omega))
    have hal := ahead_le sp
    have hx1 := ext_ahead sp
    have hx2 := ext_last sp
    obtain ⟨la, hla⟩ : ∃ la, la = lastN sp := ⟨_, rfl⟩
    obtain ⟨ah, hah⟩ : ∃ ah, ah = aheadN sp := ⟨_, rfl⟩
    rw [← hla, ← hah] at hal HPL
    rw [← hah] at HLI hx1 hx2
    rw [← hla] at hx2
    have hwr : IntKind.i64.wrap ((ah.length : Int) - 1 + 1) = (ah.length : Int) := by
      simp [IntKind.wrap, IntKind.signed, IntKind.bits]
      omega
    have e0 := emp_eq la
    have e1 := txt_eq la [46]
    have e2 := txt_eq la [46, 46]
    have e3 := emp_eq ah
    obtain ⟨z, hz⟩ : ∃ z, z = ah.length := ⟨_, rfl⟩
    rw [← hz] at hal HLI hx1 hx2 hwr
    have HZ := hide hz
    obtain ⟨lz, hlz⟩ : ∃ lz, lz = la.length := ⟨_, rfl⟩
    rw [← hlz] at hal
    have hla2 : la.length = lz := hlz.symm
    have HB := hide hbw
    have HN := hide hnew
    have HFN := hide hfin
    clear hbw hnew hfin hsp hla hah hz hlz
    go_enter Tryz.func57, Tryz.ntmps57
    go_wp2_with fail
    refine (unhide HTR _).mono ?_
    rintro e w1 ⟨rfl, hw1⟩
    subst hw1
    go_wp2_with fail
    refine (unhide HLI _).mono ?_
    rintro e w1 ⟨rfl, hw1⟩
    subst hw1
    obtain ⟨W1, hW1⟩ : ∃ W1, W1 = w.alloc (.cells #[.int .i64 0, .string ⟨#[]⟩] 85) := ⟨_, rfl⟩
    obtain ⟨pb, hpb⟩ : ∃ pb, pb = w.heap.size := ⟨_, rfl⟩
    have HPB : Hid (w.heap.size ≤ pb) := hide (by rw [hpb]; exact Nat.le_refl _)
    rw [← hW1] at HB HN ⊢
    rw [← hpb] at HN ⊢
    have HH := hide H
    clear hW1 hpb HFN H HTR HLI
    go_wp2_with fail
    go_quiet (fail)
    obtain ⟨W2, hW2⟩ : ∃ W2, W2 = W1.drewN nq := ⟨_, rfl⟩
    rw [← hW2]
    have HB2 : Hid (Below w.heap.size w W2) := hide (by rw [hW2]; exact (unhide HB).trans ((below_drew _ _).mono (unhide HB).size))
    have HK2 : Hid (Blk W2 pb 85 #[.int .i64 0, .string ⟨#[]⟩]) := hide (by rw [hW2]; exact unhide HN)
    have f0 : W2.cell? ⟨pb, 0, none⟩ = some (.int .i64 0) := (unhide HK2).cell 0 rfl
    have f1 : W2.cell? ⟨pb, 1, none⟩ = some (.string ⟨#[]⟩) := (unhide HK2).cell 1 rfl
    have f2 : W2.frozen? ⟨pb, 0, none⟩ = false := (unhide HK2).frozen 0
    have f3 : W2.frozen? ⟨pb, 1, none⟩ = false := (unhide HK2).frozen 1
    have HWK := hide (walkFrom_any ((unhide HH).below (unhide HB2)) d ah true h0 h1 (by have := unhide HZ; omega))
    have HBN := hide (goes_bnd (unhide HH).ok 8 ah true 8 h0 h1)
    have HZE : Hid ((goesN s 8 d ah true 8).2.1 ≠ 0 → (goesN s 8 d ah true 8).1 = 0) := hide (fun h => goF_zer s 9 d ah 8 h)
    clear hW2 HB HN HH
    by_cases hb1 : la = [] ∨ la = [46] ∨ la = [46, 46]
    · have HA : Hid (RR = (0, [], 1)) := hide (by rw [unhide HPL, if_neg hb0, if_pos hb1])
      have HQ := hide hb1
      clear hb1 HPL HWK HBN HZE
      rcases unhide HQ with hq | hq | hq
      · rw [decide_eq_true hq] at e0
        clear e1 e2 hq HQ
        go_wp2_with fail
        refine bodyPost_ret (res_place2 rfl _ _ pb _ _ rfl (by first | exact (((unhide HK2).set 0 _).set 1 _).cell 0 rfl | exact (unhide HK2).cell 0 rfl) (by first | exact (((unhide HK2).set 0 _).set 1 _).cell 1 rfl | exact (unhide HK2).cell 1 rfl)) rfl ⟨0, [], 1, rfl, hide ⟨plc_no (by rw [unhide HA]) (by decide), by first | exact below_set2 (unhide HB2) (unhide HPB) _ _ | exact unhide HB2⟩⟩
      · rw [decide_eq_false (by rw [hq]; decide)] at e0
        rw [decide_eq_true hq] at e1
        clear e2 hq HQ
        go_wp2_with fail
        refine bodyPost_ret (res_place2 rfl _ _ pb _ _ rfl (by first | exact (((unhide HK2).set 0 _).set 1 _).cell 0 rfl | exact (unhide HK2).cell 0 rfl) (by first | exact (((unhide HK2).set 0 _).set 1 _).cell 1 rfl | exact (unhide HK2).cell 1 rfl)) rfl ⟨0, [], 1, rfl, hide ⟨plc_no (by rw [unhide HA]) (by decide), by first | exact below_set2 (unhide HB2) (unhide HPB) _ _ | exact unhide HB2⟩⟩
      · rw [decide_eq_false (by rw [hq]; decide)] at e0
        rw [decide_eq_false (by rw [hq]; decide)] at e1
        rw [decide_eq_true hq] at e2
        clear hq HQ
        go_wp2_with fail
        refine bodyPost_ret (res_place2 rfl _ _ pb _ _ rfl (by first | exact (((unhide HK2).set 0 _).set 1 _).cell 0 rfl | exact (unhide HK2).cell 0 rfl) (by first | exact (((unhide HK2).set 0 _).set 1 _).cell 1 rfl | exact (unhide HK2).cell 1 rfl)) rfl ⟨0, [], 1, rfl, hide ⟨plc_no (by rw [unhide HA]) (by decide), by first | exact below_set2 (unhide HB2) (unhide HPB) _ _ | exact unhide HB2⟩⟩
    · rw [decide_eq_false (fun e => hb1 (.inl e))] at e0
      rw [decide_eq_false (fun e => hb1 (.inr (.inl e)))] at e1
      rw [decide_eq_false (fun e => hb1 (.inr (.inr e)))] at e2
      by_cases hb2 : 256 < p.length ∨ 32 < la.length
      · have HA : Hid (RR = (0, [], 3)) := hide (by rw [unhide HPL, if_neg hb0, if_neg hb1, if_pos hb2])
        have HQ := hide hb2
        clear hb1 hb2 HPL HWK HBN HZE
        by_cases hq : 256 < p.length
        · go_wp2_with fail
          refine bodyPost_ret (res_place2 rfl _ _ pb _ _ rfl (by first | exact (((unhide HK2).set 0 _).set 1 _).cell 0 rfl | exact (unhide HK2).cell 0 rfl) (by first | exact (((unhide HK2).set 0 _).set 1 _).cell 1 rfl | exact (unhide HK2).cell 1 rfl)) rfl ⟨0, [], 3, rfl, hide ⟨plc_no (by rw [unhide HA]) (by decide), by first | exact below_set2 (unhide HB2) (unhide HPB) _ _ | exact unhide HB2⟩⟩
        · have hq2 : 32 < lz := by rcases unhide HQ with h | h <;> omega
          go_wp2_with fail
          refine bodyPost_ret (res_place2 rfl _ _ pb _ _ rfl (by first | exact (((unhide HK2).set 0 _).set 1 _).cell 0 rfl | exact (unhide HK2).cell 0 rfl) (by first | exact (((unhide HK2).set 0 _).set 1 _).cell 1 rfl | exact (unhide HK2).cell 1 rfl)) rfl ⟨0, [], 3, rfl, hide ⟨plc_no (by rw [unhide HA]) (by decide), by first | exact below_set2 (unhide HB2) (unhide HPB) _ _ | exact unhide HB2⟩⟩
      · have hq1 : ¬ 256 < p.length := fun h => hb2 (.inl h)
        have hq2 : ¬ 32 < lz := fun h => hb2 (.inr (by omega))
        have HPL2 : Hid (RR = if ah = [] then (d, la, 0) else ((goesN s 8 d ah true 8).1, la, (goesN s 8 d ah true 8).2.1)) := hide (by rw [unhide HPL, if_neg hb0, if_neg hb1, if_neg hb2])
        have HLA : Hid (la.length ≤ 100000) := hide (by omega)
        clear hb1 hb2 HPL
        by_cases hb3 : ah = []
        · rw [decide_eq_true hb3] at e3
          have HA : Hid (RR = (d, la, 0)) := hide (by rw [unhide HPL2, if_pos hb3])
          clear hb3 HPL2 HWK HBN HZE
          go_wp2_with fail
          refine bodyPost_ret (res_place2 rfl _ _ pb _ _ rfl (by first | exact (((unhide HK2).set 0 _).set 1 _).cell 0 rfl | exact (unhide HK2).cell 0 rfl) (by first | exact (((unhide HK2).set 0 _).set 1 _).cell 1 rfl | exact (unhide HK2).cell 1 rfl)) rfl ⟨d, la, 0, rfl, hide ⟨plc_ok (unhide HA) (unhide HLA) h0 h1, by first | exact below_set2 (unhide HB2) (unhide HPB) _ _ | exact unhide HB2⟩⟩
        · rw [decide_eq_false hb3] at e3
          have HA : Hid (RR = ((goesN s 8 d ah true 8).1, la, (goesN s 8 d ah true 8).2.1)) := hide (by rw [unhide HPL2, if_neg hb3])
          obtain ⟨N, hN⟩ : ∃ N, N = (goesN s 8 d ah true 8).1 := ⟨_, rfl⟩
          obtain ⟨E, hE⟩ : ∃ E, E = (goesN s 8 d ah true 8).2.1 := ⟨_, rfl⟩
          rw [← hN, ← hE] at HA HWK HZE
          rw [← hN] at HBN
          clear hb3 HPL2 hN hE
          go_wp2_with fail
          refine (unhide HWK).mono ?_
          rintro e w5 ⟨rfl, b5⟩
          have HK5 := hide ((unhide HK2).below b5 (unhide HK2).lt)
          have HB5 := hide ((unhide HB2).trans (b5.mono (unhide HB2).size))
          clear HK2 HB2 HWK f0 f1 f2 f3 b5
          have HK2 := HK5
          have HB2 := HB5
          clear HK5 HB5
          have f0 : w5.cell? ⟨pb, 0, none⟩ = some (.int .i64 0) := (unhide HK2).cell 0 rfl
          have f1 : w5.cell? ⟨pb, 1, none⟩ = some (.string ⟨#[]⟩) := (unhide HK2).cell 1 rfl
          have f2 : w5.frozen? ⟨pb, 0, none⟩ = false := (unhide HK2).frozen 0
          have f3 : w5.frozen? ⟨pb, 1, none⟩ = false := (unhide HK2).frozen 1
          by_cases hE0 : E = 0
          · subst hE0
            go_wp2_with fail
            refine bodyPost_ret (res_place2 rfl _ _ pb _ _ rfl (by first | exact (((unhide HK2).set 0 _).set 1 _).cell 0 rfl | exact (unhide HK2).cell 0 rfl) (by first | exact (((unhide HK2).set 0 _).set 1 _).cell 1 rfl | exact (unhide HK2).cell 1 rfl)) rfl ⟨N, la, 0, rfl, hide ⟨plc_ok (unhide HA) (unhide HLA) (unhide HBN).1.1 (unhide HBN).1.2, by first | exact below_set2 (unhide HB2) (unhide HPB) _ _ | exact unhide HB2⟩⟩
          · have hE1 : (E != 0) = true := by simpa using hE0
            have HE0 := hide hE0
            clear hE0
            go_wp2_with fail
            refine bodyPost_ret (res_place2 rfl _ _ pb _ _ rfl (by first | exact (((unhide HK2).set 0 _).set 1 _).cell 0 rfl | exact (unhide HK2).cell 0 rfl) (by first | exact (((unhide HK2).set 0 _).set 1 _).cell 1 rfl | exact (unhide HK2).cell 1 rfl)) rfl ⟨0, [], E, rfl, hide ⟨plc_no (by rw [unhide HA]) (unhide HE0), by first | exact below_set2 (unhide HB2) (unhide HPB) _ _ | exact unhide HB2⟩⟩

end Go.Proofs.YtemologkibcdoaaGreatDoor

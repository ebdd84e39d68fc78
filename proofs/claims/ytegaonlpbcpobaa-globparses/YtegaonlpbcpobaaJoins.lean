/-
  The walk of GlobJoins.
-/
import Derived.Test.YtegaonlpbcpobaaAwake
import Derived.Test.YtegaonlpbcpobaaPlain
import Derived.Laws.OwnMore
namespace Go.Proofs.Ytegaonlpbcpobaa
open Go.RowKit

def preS (s : ByteArray) (i : Nat) : ByteArray := s.extract 0 i
def sufS (s : ByteArray) (i : Nat) : ByteArray := s.extract i s.size
theorem extract_size (s : ByteArray) (i j : Nat) (h : j ≤ s.size) : (s.extract i j).size = j - i := by
  rw [ByteArray.size_extract]; omega
theorem sb_extract (s : ByteArray) (i j k : Nat) (h : j ≤ s.size) (hk : k < j - i) : sb (s.extract i j) k = sb s (i + k) := by
  have h1 : k < (s.extract i j).size := by rw [extract_size s i j h]; exact hk
  rw [sb_eq h1, sb_eq (by omega), ByteArray.getElem_extract]
theorem bs_pre (s : ByteArray) (i : Nat) (h : i ≤ s.size) : bs (preS s i) = (bs s).take i := by
  apply List.ext_getElem
  · rw [bs_len, List.length_take, bs_len]; unfold preS; rw [extract_size s 0 i h]; omega
  · intro j h1 h2
    have hj : j < i := by rw [List.length_take, bs_len] at h2; omega
    rw [List.getElem_take, bs_get s j (by omega)]
    have h1' : j < (preS s i).size := by rwa [bs_len] at h1
    rw [bs_get _ j h1']
    unfold preS
    rw [sb_extract s 0 i j h (by omega), Nat.zero_add]
theorem bs_suf (s : ByteArray) (i : Nat) (h : i ≤ s.size) : bs (sufS s i) = (bs s).drop i := by
  apply List.ext_getElem
  · rw [bs_len, List.length_drop, bs_len]; unfold sufS; rw [extract_size s i s.size (Nat.le_refl _)]
  · intro j h1 h2
    have hj : j < s.size - i := by rw [List.length_drop, bs_len] at h2; omega
    rw [List.getElem_drop, bs_get s (i + j) (by omega)]
    have h1' : j < (sufS s i).size := by rwa [bs_len] at h1
    rw [bs_get _ j h1']
    unfold sufS
    rw [sb_extract s i s.size j (Nat.le_refl _) hj]

/-- Some cut ahead of n, of which the first ones fit the front and the second ones the rest. -/
def wantB (a b : List Tok) (s : ByteArray) (n : Nat) : Bool := anyTo (fun i => matchB (preS s i) a && matchB (sufS s i) b) n
theorem want_match (a b : List Tok) (s : ByteArray) : matchB s (a ++ b) = wantB a b s (s.size + 1) := by
  rw [Bool.eq_iff_iff, matchB_iff, fits_append]
  unfold wantB
  rw [anyTo_iff]
  constructor
  · rintro ⟨u, v, h, h1, h2⟩
    have hl : u.length ≤ s.size := by have := congrArg List.length h; rw [bs_len, List.length_append] at this; omega
    refine ⟨u.length, by omega, ?_⟩
    rw [Bool.and_eq_true, matchB_iff, matchB_iff, bs_pre s _ hl, bs_suf s _ hl, h]
    exact ⟨by simpa using h1, by simpa using h2⟩
  · rintro ⟨i, hi, h⟩
    rw [Bool.and_eq_true, matchB_iff, matchB_iff, bs_pre s _ (by omega), bs_suf s _ (by omega)] at h
    exact ⟨_, _, (List.take_append_drop i (bs s)).symm, h.1, h.2⟩

def NilOr (u : Value) : Prop := u = .slice none 0 0 ∨ ∃ ad l c, u = .slice (some ad) l c
theorem app_any (n₀ base k : Nat) (v u : Value) (ts : List Tok) (zs : List Value) (w : World) (hown : w.ownsRow base 47 4 v k zs) (hrow : TokRow n₀ w u ts) (hu : NilOr u) (hk : k + ts.length ≤ 1000) (hb : base ≤ w.heap.size) :
    ∃ R v' w', (Builtin.append_ #[26, 26] 26 #[v, u]).run Try.prog w = .ok v' w' ∧ w'.ownsRow base 47 4 v' (k + ts.length) (zs ++ flatV (valsOf R ts)) ∧ w.grownBy w' v.ownBlock ∧ (∀ j (hj : j < ts.length), RowR n₀ w (.slice (R j).1 (R j).2.1 (R j).2.2) ts[j].rs) := by
  obtain ⟨i0, hi, hz0, hz1, hz2⟩ := info_parts info47
  obtain ⟨a, cap, rfl, _⟩ := hrow.shape
  obtain ⟨R, hR⟩ := hrow.vals
  have hRR : ∀ j (hj : j < ts.length), RowR n₀ w (.slice (R j).1 (R j).2.1 (R j).2.2) ts[j].rs := fun j hj => by obtain ⟨_, _, _, _, _, h⟩ := hR j hj; exact h
  rcases hu with hu | ⟨ad, l, c, hu⟩
  · simp at hu
    obtain ⟨rfl, h0, rfl⟩ := hu
    have h0' : ts = [] := by simpa using h0
    subst h0'
    refine ⟨R, v, w, run_append_owned_none (P := Try.prog) w base 26 26 47 i0 4 Try.underlying26 hi v k zs hown, ?_, ⟨rfl, rfl, rfl, Nat.le_refl _, fun _ _ _ => rfl⟩, hRR⟩
    have e : flatV (valsOf R ([] : List Tok)) = [] := rfl
    rw [e, List.append_nil]
    exact hown
  · simp at hu
    obtain ⟨rfl, rfl, rfl⟩ := hu
    obtain ⟨v', w', h1, h2, h3, _⟩ := run_append_own (P := Try.prog) w base 26 26 47 i0 _ 4 40 Try.underlying26 hi hz0 hz1 hz2 rfl (by decide) v k zs hown ad ts.length cap (flatV (valsOf R ts)) (by rw [flatV_len, valsOf_len]) (TokRow.cells hR) (flatV_one _) (by rw [show maxLen = 9223372036854775807 by decide]; omega) (by omega) hb
    exact ⟨R, v', w', h1, h2, h3, hRR⟩

theorem valsOf_append (Ra Rb : Nat → Option Addr × Nat × Nat) (ta tb : List Tok) : valsOf (fun j => if j < ta.length then Ra j else Rb (j - ta.length)) (ta ++ tb) = valsOf Ra ta ++ valsOf Rb tb := by
  apply List.ext_getElem
  · simp [valsOf]
  · intro j h1 h2
    have hj : j < (ta ++ tb).length := by rwa [valsOf_len] at h1
    rw [valsOf_get _ _ j hj]
    by_cases h : j < ta.length
    · have ha : j < (valsOf Ra ta).length := by rw [valsOf_len]; exact h
      have e1 : (valsOf Ra ta ++ valsOf Rb tb)[j] = (valsOf Ra ta)[j] := List.getElem_append_left ha
      have e2 : (ta ++ tb)[j] = ta[j] := List.getElem_append_left h
      rw [e1, e2, valsOf_get Ra ta j h]
      simp only [h, if_true]
    · have hj2 : j - ta.length < tb.length := by rw [List.length_append] at hj; omega
      have ha : (valsOf Ra ta).length ≤ j := by rw [valsOf_len]; omega
      have e1 : (valsOf Ra ta ++ valsOf Rb tb)[j] = (valsOf Rb tb)[j - (valsOf Ra ta).length]'(by rw [valsOf_len, valsOf_len]; exact hj2) := List.getElem_append_right ha
      have e2 : (ta ++ tb)[j] = tb[j - ta.length] := List.getElem_append_right (by omega)
      rw [e1, e2]
      simp only [valsOf_len, h, if_false]
      exact (valsOf_get Rb tb (j - ta.length) hj2).symm
theorem flatV_append (X Y : List TV) : flatV (X ++ Y) = flatV X ++ flatV Y := by unfold flatV; rw [List.flatMap_append]

theorem wpList_append_run {P : Program} {w : World} {ops : Array Oper} {rest : List Oper} {o : Oper} {a : Act} {Q : Exit → Act → World → Prop} (hgd : o.guard = none) (s x : Operand) (t : TypeId)
    (ho : o.op = .call { callee := .builtin .append, args := #[s, x], argTypes := #[t, t] }) (v u v' : Value) (w' : World) (hs : a.eval s = v) (hx : a.eval x = u)
    (hr : (Builtin.append_ #[t, t] o.type #[v, u]).run P w = .ok v' w') (h : wpList P ops Q rest (a.put o.dst v') w') : wpList P ops Q (o :: rest) a w :=
  wpList_plain hgd fun _ hK => by
    unfold Oper.wp execOp
    simp only [ho, resolve, invoke, builtin, Sem.run_bind, Sem.run_pure, Result.andThen_ok, List.map_toArray, List.map_cons, List.map_nil, hs, hx, hr]
    exact hK _ _ h

set_option maxHeartbeats 4000000 in
theorem joins_few (va vb : Value) (s : ByteArray) (ta tb : List Tok) (w : World) (ha : TR w va ta) (hb : TR w vb tb) (hna : NilOr va) (hnb : NilOr vb) (fa : fewB ta = true) (fb : fewB tb = true) (hs : s.size ≤ 100) :
    Calls Try.prog 7 #[va, vb, .string s] w fun e w' => e = .returned (.bool true) ∧ Below w.heap.size w w' := by
  have hla := (fewB_spec fa).1
  have hlb := (fewB_spec fb).1
  obtain ⟨Ra, v1, w1, hr1, ho1, hg1, hq1⟩ := app_any w.heap.size w.heap.size 0 (.slice none 0 0) va ta [] w (World.ownsRow_nil _ _ _ _) ha hna (by omega) (Nat.le_refl _)
  have b1 : Below w.heap.size w w1 := (Below.refl _ w).grown hg1 (Nat.le_refl _) (fun k hk => by cases hk)
  obtain ⟨Rb, v2, w2, hr2, ho2, hg2, hq2⟩ := app_any w.heap.size w.heap.size (0 + ta.length) v1 vb tb ([] ++ flatV (valsOf Ra ta)) w1 ho1 (TokRow.below hb b1) hnb (by omega) b1.size
  have b2 : Below w.heap.size w w2 := b1.grown hg2 b1.size (fun k hk => (ownsRow_lt ho1 hk).1)
  have hl2 : TR w2 v2 (ta ++ tb) := by
    refine ownT_row (n := w.heap.size) (base := w.heap.size) (R := fun j => if j < ta.length then Ra j else Rb (j - ta.length)) ⟨?_, fun j hj => ?_⟩ (by rw [List.length_append]; omega) b2.size
    · rw [valsOf_append, flatV_append, List.length_append]
      simpa using ho2
    · by_cases h : j < ta.length
      · rw [List.getElem_append_left h]
        simp only [h, if_true]
        exact (hq1 j h).below b2
      · have hj2 : j - ta.length < tb.length := by rw [List.length_append] at hj; omega
        rw [List.getElem_append_right (by omega)]
        simp only [h, if_false]
        exact (hq2 _ hj2).below ((Below.refl _ w1).grown hg2 b1.size (fun k hk => (ownsRow_lt ho1 hk).1))
  have HA := hide ha
  have HB := hide hb
  have HB2 := hide b2
  have HL := hide hl2
  obtain ⟨aa, ca, rfl, _⟩ := TokRow.shape ha
  obtain ⟨ab, cb, rfl, _⟩ := TokRow.shape hb
  obtain ⟨al, cl, rfl, _⟩ := TokRow.shape hl2
  clear ha hb ho1 hg1 hq1 ho2 hg2 hq2 b1 b2 hl2 hna hnb
  go_enter Try.func7, Try.ntmps7
  go_wp2_with fail
  refine (few_any w.heap.size _ ta _ (unhide HA)).mono ?_
  rintro e x1 ⟨rfl, hx1⟩
  have hx2 := hx1.symm
  subst hx2
  clear hx1
  rw [fa]
  go_wp2_with fail
  refine (few_any w.heap.size _ tb _ (unhide HB)).mono ?_
  rintro e x1 ⟨rfl, hx1⟩
  have hx2 := hx1.symm
  subst hx2
  clear hx1
  rw [fb]
  have hd100 : decide ((100 : Int) < (s.size : Int)) = false := by simp; omega
  have HR1 := hide hr1
  have HR2 := hide hr2
  clear hr1 hr2
  go_wp2_with (at_builtin; first | refine wpList_append_run rfl (.tmp 24) (.tmp 25) 26 rfl _ _ _ _ rfl rfl (unhide HR1) ?_ | refine wpList_append_run rfl (.tmp 27) (.tmp 28) 26 rfl _ _ _ _ rfl rfl (unhide HR2) ?_)
  clear HR1 HR2
  have HA2 := hide ((unhide HA).next (unhide HB2))
  have HB3 := hide ((unhide HB).next (unhide HB2))
  clear HA HB
  go_loopw [8, 9] (fun x i wr => ∃ (k : Nat), k ≤ s.size + 1 ∧ i = .int .i64 (k : Int) ∧ x = .bool (wantB ta tb s k) ∧ TR wr (.slice aa ta.length ca) ta ∧ TR wr (.slice ab tb.length cb) tb ∧ TR wr (.slice al (ta ++ tb).length cl) (ta ++ tb) ∧ Below w.heap.size w wr) (fun _ i _ => s.size + 1 - (intOf i).toNat)
  case atStart => exact ⟨0, Nat.zero_le _, rfl, rfl, unhide HA2, unhide HB3, unhide HL, unhide HB2⟩
  case round =>
    obtain ⟨k, hk, rfl, rfl, r1, r2, r3, r4⟩ := hrel
    have R1 := hide r1
    have R2 := hide r2
    have R3 := hide r3
    have R4 := hide r4
    clear r1 r2 r3 r4
    by_cases hlt : k ≤ s.size
    · have hws : wantB ta tb s (k + 1) = (wantB ta tb s k || (matchB (preS s k) ta && matchB (sufS s k) tb)) := rfl
      have HWS := hide hws
      clear hws
      rcases Bool.eq_false_or_eq_true (wantB ta tb s k) with hw | hw
      · rw [hw]
        go_wp2_with fail
        go_roundw
        case rel => exact ⟨k + 1, by omega, by go_num, by rw [unhide HWS, hw]; rfl, unhide R1, unhide R2, unhide R3, unhide R4⟩
        case measure => simp [intOf]; omega
      · rw [hw]
        go_wp2_with fail
        refine (mt (preS s k) ta (matchB (preS s k) ta) _ _ (by unfold preS; rw [extract_size s 0 k hlt]; omega) (unhide R1) rfl).mono ?_
        rintro e x2 ⟨rfl, b2⟩
        have R1 := hide ((unhide R1).next b2)
        have R2 := hide ((unhide R2).next b2)
        have R3 := hide ((unhide R3).next b2)
        have R4 := hide ((unhide R4).trans (b2.mono (unhide R4).size))
        clear b2
        rcases Bool.eq_false_or_eq_true (matchB (preS s k) ta) with hm | hm
        · rw [hm]
          go_wp2_with fail
          refine (mt (sufS s k) tb (matchB (sufS s k) tb) _ _ (by unfold sufS; rw [extract_size s k s.size (Nat.le_refl _)]; omega) (unhide R2) rfl).mono ?_
          rintro e x3 ⟨rfl, b3⟩
          have R1 := hide ((unhide R1).next b3)
          have R2 := hide ((unhide R2).next b3)
          have R3 := hide ((unhide R3).next b3)
          have R4 := hide ((unhide R4).trans (b3.mono (unhide R4).size))
          clear b3
          obtain ⟨mm, hmm⟩ : ∃ x, x = matchB (sufS s k) tb := ⟨_, rfl⟩
          rw [← hmm]
          have HMM := hide hmm
          clear hmm
          go_wp2
          go_roundw
          case rel => exact ⟨k + 1, by omega, by go_num, by rw [unhide HWS, hw, hm, ← unhide HMM]; simp, unhide R1, unhide R2, unhide R3, unhide R4⟩
          case measure => simp [intOf]; omega
        · rw [hm]
          go_wp2_with fail
          go_roundw
          case rel => exact ⟨k + 1, by omega, by go_num, by rw [unhide HWS, hw, hm]; rfl, unhide R1, unhide R2, unhide R3, unhide R4⟩
          case measure => simp [intOf]; omega
    · have hke : k = s.size + 1 := by omega
      subst hke
      obtain ⟨ww, hww⟩ : ∃ x, x = wantB ta tb s (s.size + 1) := ⟨_, rfl⟩
      rw [← hww]
      have hmw : matchB s (ta ++ tb) = ww := by rw [want_match, hww]
      have HMW := hide hmw
      clear hww hmw
      go_wp2_with fail
      refine (mt s (ta ++ tb) ww _ _ (by omega) (by have := unhide R3; rwa [List.length_append] at this) (unhide HMW)).mono ?_
      rintro e x2 ⟨rfl, b2⟩
      have R4 := hide ((unhide R4).trans (b2.mono (unhide R4).size))
      clear b2
      go_wp2_with fail
      refine (awake_any _).mono ?_
      rintro e x3 ⟨rfl, b3⟩
      go_wp2_with fail
      go_ret
      exact ⟨rfl, (unhide R4).trans (b3.mono (unhide R4).size)⟩

set_option maxHeartbeats 2000000 in
theorem joins_walk (va vb : Value) (s : ByteArray) (ta tb : List Tok) (w : World) (ha : TR w va ta) (hb : TR w vb tb) (hna : NilOr va) (hnb : NilOr vb) (hs : s.size ≤ maxLen) :
    Calls Try.prog 7 #[va, vb, .string s] w fun e w' => e = .returned (.bool true) ∧ Below w.heap.size w w' := by
  unfold maxLen at hs
  rcases Bool.eq_false_or_eq_true (fewB ta) with fa | fa
  · rcases Bool.eq_false_or_eq_true (fewB tb) with fb | fb
    · by_cases h : (100 : Int) < (s.size : Int)
      · have HA := hide ha
        have HB := hide hb
        obtain ⟨aa, ca, rfl, _⟩ := TokRow.shape ha
        obtain ⟨ab, cb, rfl, _⟩ := TokRow.shape hb
        clear ha hb
        go_enter Try.func7, Try.ntmps7
        go_wp2_with fail
        refine (few_any w.heap.size _ ta _ (unhide HA)).mono ?_
        rintro e x1 ⟨rfl, hx1⟩
        have hx2 := hx1.symm
        subst hx2
        clear hx1
        rw [fa]
        go_wp2_with fail
        refine (few_any w.heap.size _ tb _ (unhide HB)).mono ?_
        rintro e x1 ⟨rfl, hx1⟩
        have hx2 := hx1.symm
        subst hx2
        clear hx1
        rw [fb]
        go_wp2_with fail
        refine (awake_any _).mono ?_
        rintro e x3 ⟨rfl, b3⟩
        go_wp2_with fail
        go_ret
        exact ⟨rfl, b3⟩
      · exact joins_few va vb s ta tb w ha hb hna hnb fa fb (by omega)
    · have HA := hide ha
      have HB := hide hb
      obtain ⟨aa, ca, rfl, _⟩ := TokRow.shape ha
      obtain ⟨ab, cb, rfl, _⟩ := TokRow.shape hb
      clear ha hb
      go_enter Try.func7, Try.ntmps7
      go_wp2_with fail
      refine (few_any w.heap.size _ ta _ (unhide HA)).mono ?_
      rintro e x1 ⟨rfl, hx1⟩
      have hx2 := hx1.symm
      subst hx2
      clear hx1
      rw [fa]
      go_wp2_with fail
      refine (few_any w.heap.size _ tb _ (unhide HB)).mono ?_
      rintro e x1 ⟨rfl, hx1⟩
      have hx2 := hx1.symm
      subst hx2
      clear hx1
      rw [fb]
      go_wp2_with fail
      refine (awake_any _).mono ?_
      rintro e x3 ⟨rfl, b3⟩
      go_wp2_with fail
      go_ret
      exact ⟨rfl, b3⟩
  · have HA := hide ha
    obtain ⟨aa, ca, rfl, _⟩ := TokRow.shape ha
    obtain ⟨ab, cb, rfl, _⟩ := TokRow.shape hb
    clear ha hb
    go_enter Try.func7, Try.ntmps7
    go_wp2_with fail
    refine (few_any w.heap.size _ ta _ (unhide HA)).mono ?_
    rintro e x1 ⟨rfl, hx1⟩
    have hx2 := hx1.symm
    subst hx2
    clear hx1
    rw [fa]
    go_wp2_with fail
    refine (awake_any _).mono ?_
    rintro e x3 ⟨rfl, b3⟩
    go_wp2_with fail
    go_ret
    exact ⟨rfl, b3⟩

end Go.Proofs.Ytegaonlpbcpobaa

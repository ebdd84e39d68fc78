/-
  Directories (stage 13): Stat, refuseBytes, Write.
  Directories (stage 13): New.
-/
import Derived.Test.YtemologkibcdoaaGreatDoorM26

/- Directories (stage 13): Stat, refuseBytes, Write. -/
namespace Go.Proofs.YtemologkibcdoaaGreatDoor
open Go.RowKit Go.Maps

theorem res_info {fn : Func} {t u : Tmp} (h : fn.results = #[.cell t 205, .tmp u]) (tmps : Array Value) (w : World) (b : Nat) (x0 x1 x2 : Value) (ht : tmps.getD t undef = .pointer (some ⟨b, 0, none⟩))
    (h0 : w.cell? ⟨b, 0, none⟩ = some x0) (h1 : w.cell? ⟨b, 1, none⟩ = some x1) (h2 : w.cell? ⟨b, 2, none⟩ = some x2) :
    (results fn tmps).run Tryz.prog w = .ok (.tuple #[.agg #[x0, x1, x2], tmps.getD u undef]) w := by
  have ht' : tmps[t]?.getD undef = .pointer (some ⟨b, 0, none⟩) := by simpa using ht
  unfold results
  rw [h]
  simp [ht', go_sem, h0, h1, h2]
theorem below_set3 {w W : World} {pb : Nat} (hb : Below w.heap.size w W) (hp : w.heap.size ≤ pb) (u v x : Value) : Below w.heap.size w (((W.setCell ⟨pb, 0, none⟩ u).setCell ⟨pb, 1, none⟩ v).setCell ⟨pb, 2, none⟩ x) := by
  have g : GrownS ((W.setCell ⟨pb, 0, none⟩ u).setCell ⟨pb, 1, none⟩ v) (((W.setCell ⟨pb, 0, none⟩ u).setCell ⟨pb, 1, none⟩ v).setCell ⟨pb, 2, none⟩ x) (fun k => k = pb) := GrownS.of (grown_setCell _ _ _) (fun k e => by simpa using e)
  have h2 := below_set2 hb hp u v
  exact h2.trans (g.below h2.size (fun k e => by rw [e]; exact hp))
def statK (s : NS) (d : Int) : Nat := kdI s.T d
def statZ (s : NS) (d : Int) : Nat := if kdI s.T d = 2 then (inL s.L d).length else sizeOfN (ndAt s.T d)
def statE (s : NS) (d : Int) : Int := if kdI s.T d = 0 then 23 else 0
set_option maxRecDepth 20000 in
set_option maxHeartbeats 4000000 in
theorem stat_any {w : World} {f q nb n : Nat} {B : Bas} {Y : Nat → Prop} {s : NS} (H : FX w f q Y s nb n B) (d : Int) (hb : -9223372036854775808 ≤ d ∧ d ≤ 9223372036854775807) : Calls Tryz.prog 111 #[.pointer (some ⟨f, 0, none⟩), .int .i64 d] w fun e w' => e = .returned (.tuple #[.agg #[.int .i64 (statK s d : Int), .int .i64 (if kdI s.T d = 0 then 0 else (statZ s d : Int)), .int .i64 (if kdI s.T d = 0 then 0 else (nmI s.T d : Int))], .int .i64 (statE s d)]) ∧ Below w.heap.size w w' := by
  have hbw : Below w.heap.size w (w.alloc (.cells #[.int .i64 0, .int .i64 0, .int .i64 0] 205)) := (Below.refl _ w).alloc (Nat.le_refl _) _
  have hnew := Blk.new w 205 #[.int .i64 0, .int .i64 0, .int .i64 0]
  have H1 := H.below hbw
  obtain ⟨pb, hpb⟩ : ∃ pb, pb = w.heap.size := ⟨_, rfl⟩
  have HPB : Hid (w.heap.size ≤ pb) := hide (by rw [hpb]; exact Nat.le_refl _)
  have HPB0 := hide hpb
  rw [← hpb] at hnew
  obtain ⟨W1, hW1⟩ : ∃ W1, W1 = (w.alloc (.cells #[.int .i64 0, .int .i64 0, .int .i64 0] 205)) := ⟨_, rfl⟩
  have HW1 := hide hW1
  rw [← hW1] at hbw hnew H1
  have HK2 := hide hnew
  have HB2 := hide hbw
  have f0 : W1.cell? ⟨pb, 0, none⟩ = some (.int .i64 0) := hnew.cell 0 rfl
  have f1 : W1.cell? ⟨pb, 1, none⟩ = some (.int .i64 0) := hnew.cell 1 rfl
  have f2 : W1.cell? ⟨pb, 2, none⟩ = some (.int .i64 0) := hnew.cell 2 rfl
  have f3 : W1.frozen? ⟨pb, 0, none⟩ = false := hnew.frozen 0
  have f4 : W1.frozen? ⟨pb, 1, none⟩ = false := hnew.frozen 1
  have f5 : W1.frozen? ⟨pb, 2, none⟩ = false := hnew.frozen 2
  have c0 : W1.cell? ⟨f, 0, none⟩ = some (.pointer (some ⟨q, 0, none⟩)) := H1.blk.cell 0 rfl
  have HK := hide (nkind_any H1 d hb)
  obtain ⟨t, dm, M, X, HL, _⟩ := H1.nd.at'
  have c1 : W1.cell? ⟨q, 0, none⟩ = some (.pointer (some ⟨t, 0, none⟩)) := HL.nds.cell 0 rfl
  have c2 : W1.cell? ⟨q, 1, none⟩ = some (.map (some dm)) := HL.nds.cell 1 rfl
  have HSZ := hide (HL.size d hb)
  have HLK := hide (HL.links d hb)
  have hl := HL.look hb
  have hln := HL.lenN H.nd.ok.inv d
  obtain ⟨mm, hmm⟩ : ∃ mm, mm = mapOf s M d := ⟨_, rfl⟩
  obtain ⟨pp, hpp⟩ : ∃ pp, pp = parOf s d := ⟨_, rfl⟩
  rw [← hmm, ← hpp] at hl
  rw [← hmm, inN_is] at hln
  have hfd := fld_dir pp mm
  unfold statK statZ statE
  change Hid (Calls _ _ _ _ fun e w' => e = .returned (.int .i64 (nmI s.T d : Int)) ∧ _) at HLK
  obtain ⟨k, hk⟩ : ∃ k, k = kdI s.T d := ⟨_, rfl⟩
  obtain ⟨z, hz⟩ : ∃ z, z = sizeOfN (ndAt s.T d) := ⟨_, rfl⟩
  obtain ⟨nn, hnn⟩ : ∃ nn, nn = nmI s.T d := ⟨_, rfl⟩
  obtain ⟨il, hil⟩ : ∃ il, il = (inL s.L d).length := ⟨_, rfl⟩
  rw [← hk] at HK
  rw [← hz] at HSZ
  rw [← hnn] at HLK
  rw [← hil] at hln
  rw [← hk, ← hz, ← hnn, ← hil]
  clear H H1 HL hmm hpp hk hz hnn hil hnew hbw hpb hW1
  by_cases h0 : k = 0
  · subst h0
    go_enter Tryz.func111, Tryz.ntmps111
    go_wp2_with fail
    rw [← unhide HW1, ← unhide HPB0]
    refine (unhide HK).mono ?_
    rintro e w1 ⟨rfl, hw1⟩
    have hw2 := hw1.symm
    subst hw2
    clear hw1
    go_wp2_with fail
    refine bodyPost_ret (res_info rfl _ _ pb _ _ _ rfl (by first | exact ((((unhide HK2).set 0 _).set 1 _).set 2 _).cell 0 rfl | exact (unhide HK2).cell 0 rfl) (by first | exact ((((unhide HK2).set 0 _).set 1 _).set 2 _).cell 1 rfl | exact (unhide HK2).cell 1 rfl) (by first | exact ((((unhide HK2).set 0 _).set 1 _).set 2 _).cell 2 rfl | exact (unhide HK2).cell 2 rfl)) rfl ⟨rfl, by first | exact below_set3 (unhide HB2) (unhide HPB) _ _ _ | exact unhide HB2⟩
  · rw [if_neg h0] at HK
    simp only [if_neg h0]
    by_cases h2 : k = 2
    · subst h2
      simp only [if_true]
      go_enter Tryz.func111, Tryz.ntmps111
      go_wp2_with fail
      rw [← unhide HW1, ← unhide HPB0]
      refine (unhide HK).mono ?_
      rintro e w1 ⟨rfl, hw1⟩
      have hw2 := hw1.symm
      subst hw2
      clear hw1
      go_wp2_with fail
      refine (unhide HSZ).mono ?_
      rintro e w1 ⟨rfl, hw1⟩
      have hw2 := hw1.symm
      subst hw2
      clear hw1
      go_wp2_with fail
      refine (unhide HLK).mono ?_
      rintro e w1 ⟨rfl, hw1⟩
      have hw2 := hw1.symm
      subst hw2
      clear hw1
      go_wp2_with fail
      refine bodyPost_ret (res_info rfl _ _ pb _ _ _ rfl (by first | exact ((((unhide HK2).set 0 _).set 1 _).set 2 _).cell 0 rfl | exact (unhide HK2).cell 0 rfl) (by first | exact ((((unhide HK2).set 0 _).set 1 _).set 2 _).cell 1 rfl | exact (unhide HK2).cell 1 rfl) (by first | exact ((((unhide HK2).set 0 _).set 1 _).set 2 _).cell 2 rfl | exact (unhide HK2).cell 2 rfl)) rfl ⟨rfl, by first | exact below_set3 (unhide HB2) (unhide HPB) _ _ _ | exact unhide HB2⟩
    · simp only [if_neg h2]
      have h3 : (((k : Nat) : Int) == 2) = false := by rw [beq_eq_false_iff_ne]; omega
      clear h0 h2
      go_enter Tryz.func111, Tryz.ntmps111
      go_wp2_with fail
      rw [← unhide HW1, ← unhide HPB0]
      refine (unhide HK).mono ?_
      rintro e w1 ⟨rfl, hw1⟩
      have hw2 := hw1.symm
      subst hw2
      clear hw1
      go_wp2_with fail
      refine (unhide HSZ).mono ?_
      rintro e w1 ⟨rfl, hw1⟩
      have hw2 := hw1.symm
      subst hw2
      clear hw1
      go_wp2_with fail
      refine (unhide HLK).mono ?_
      rintro e w1 ⟨rfl, hw1⟩
      have hw2 := hw1.symm
      subst hw2
      clear hw1
      go_wp2_with fail
      refine bodyPost_ret (res_info rfl _ _ pb _ _ _ rfl (by first | exact ((((unhide HK2).set 0 _).set 1 _).set 2 _).cell 0 rfl | exact (unhide HK2).cell 0 rfl) (by first | exact ((((unhide HK2).set 0 _).set 1 _).set 2 _).cell 1 rfl | exact (unhide HK2).cell 1 rfl) (by first | exact ((((unhide HK2).set 0 _).set 1 _).set 2 _).cell 2 rfl | exact (unhide HK2).cell 2 rfl)) rfl ⟨rfl, by first | exact below_set3 (unhide HB2) (unhide HPB) _ _ _ | exact unhide HB2⟩
def filE (s : NS) (d : Int) : Int := if kdI s.T d = 0 then 23 else if kdI s.T d = 2 then 24 else if kdI s.T d = 3 then 1 else 0
set_option maxRecDepth 20000 in
set_option maxHeartbeats 1000000 in
theorem refuseBytes_any {w : World} {f q nb n : Nat} {B : Bas} {Y : Nat → Prop} {s : NS} (H : FX w f q Y s nb n B) (d : Int) (hb : -9223372036854775808 ≤ d ∧ d ≤ 9223372036854775807) : Calls Tryz.prog 46 #[.pointer (some ⟨f, 0, none⟩), .int .i64 d] w fun e w' => e = .returned (.int .i64 (filE s d)) ∧ w' = w := by
  have HK := hide (nkind_any H d hb)
  unfold filE
  obtain ⟨k, hk⟩ : ∃ k, k = kdI s.T d := ⟨_, rfl⟩
  rw [← hk] at HK ⊢
  clear H hk
  by_cases h0 : k = 0
  · subst h0
    go_enter Tryz.func46, Tryz.ntmps46
    go_wp2_with fail
    refine (unhide HK).mono ?_
    rintro e w1 ⟨rfl, hw1⟩
    subst hw1
    go_wp2_with fail
    go_ret
    exact ⟨rfl, rfl⟩
  · rw [if_neg h0] at HK ⊢
    by_cases h2 : k = 2
    · subst h2
      go_enter Tryz.func46, Tryz.ntmps46
      go_wp2_with fail
      refine (unhide HK).mono ?_
      rintro e w1 ⟨rfl, hw1⟩
      subst hw1
      go_wp2_with fail
      go_ret
      exact ⟨rfl, rfl⟩
    · have h22 : (((k : Nat) : Int) == 2) = false := by rw [beq_eq_false_iff_ne]; omega
      rw [if_neg h2]
      by_cases h3 : k = 3
      · subst h3
        go_enter Tryz.func46, Tryz.ntmps46
        go_wp2_with fail
        refine (unhide HK).mono ?_
        rintro e w1 ⟨rfl, hw1⟩
        subst hw1
        go_wp2_with fail
        go_ret
        exact ⟨rfl, rfl⟩
      · have h33 : (((k : Nat) : Int) == 3) = false := by rw [beq_eq_false_iff_ne]; omega
        rw [if_neg h3]
        clear h0 h2 h3
        go_enter Tryz.func46, Tryz.ntmps46
        go_wp2_with fail
        refine (unhide HK).mono ?_
        rintro e w1 ⟨rfl, hw1⟩
        subst hw1
        go_wp2_with fail
        go_ret
        exact ⟨rfl, rfl⟩
/-- What Write leaves. -/
def WrtSp (s : NS) (nb : Nat) (d a : Int) (x : List UInt8) (N E : Int) (s' : NS) : Prop := (filE s d ≠ 0 ∧ N = 0 ∧ E = filE s d ∧ s' = s) ∨ (filE s d = 0 ∧ ∃ T', WrSp s.T (nb - usedT s.T) d a x N E T' ∧ s' = { s with T := T' })
set_option maxRecDepth 20000 in
set_option maxHeartbeats 1000000 in
theorem fwrite_any {w : World} {f q nb n : Nat} {B : Bas} {Y : Nat → Prop} {s : NS} (H : FX w f q Y s nb n B) (d a : Int) (x : List UInt8) (hb : -9223372036854775808 ≤ d ∧ d ≤ 9223372036854775807) (ha : a ≤ 9223372036854775807) (hx : x.length ≤ 100000) : Calls Tryz.prog 230 #[.pointer (some ⟨f, 0, none⟩), .int .i64 d, .int .i64 a, .string (BA x)] w fun e w' => ∃ N E, e = .returned (.tuple #[.int .i64 N, .int .i64 E]) ∧ Hid (∃ s', WrtSp s nb d a x N E s' ∧ FX w' f q Y s' nb (n + 1) B) := by
  have c0 : w.cell? ⟨f, 0, none⟩ = some (.pointer (some ⟨q, 0, none⟩)) := H.blk.cell 0 rfl
  have HR := hide (refuseBytes_any H d hb)
  obtain ⟨t, X, c1, htab, hX, hturn⟩ := (H.nd.at'.toG H.nd.ok).tbl H.new
  have HT := hide (twrite_any htab (fun k y hy => (H.nd.ok.gd k y hy).1.size) d a x hb ha (by omega))
  have HTU := hide hturn
  have HH := hide H
  obtain ⟨E0, hE0⟩ : ∃ E0, E0 = filE s d := ⟨_, rfl⟩
  have HE0 := hide hE0
  rw [← hE0] at HR
  clear H htab hX hturn hE0
  by_cases h0 : E0 = 0
  · subst h0
    go_enter Tryz.func230, Tryz.ntmps230
    go_wp2_with fail
    refine (unhide HR).mono ?_
    rintro e w1 ⟨rfl, hw1⟩
    subst hw1
    go_wp2_with fail
    refine (unhide HT).mono ?_
    rintro e w2 ⟨N, E, rfl, HWL⟩
    go_wp2_with fail
    go_ret2
    obtain ⟨T', k1, k2, k3⟩ := unhide HWL
    have hg := unhide HTU w2 _ k2 k3
    exact ⟨_, _, rfl, hide ⟨_, .inr ⟨(unhide HE0).symm, T', k1, rfl⟩, (unhide HH).table hg.1 hg.2 (fun k => by rw [(wr_all k1 k).2]) (quiet_ok (unhide HH).nd.ok ⟨fun k => (wr_all k1 k).1, fun k _ => (wr_all k1 k).2⟩ ((good_wr (unhide HH).nd.ok.gd k1).mono (Nat.le_succ _)) (Nat.le_succ _) (wr_len k1) (fun k => (wr_all k1 k).2))⟩⟩
  · have hE1 : (E0 != 0) = true := by simpa using h0
    have HX : Hid (∃ s', WrtSp s nb d a x 0 E0 s' ∧ FX w f q Y s' nb (n + 1) B) := hide ⟨s, .inl ⟨by rw [← unhide HE0]; exact h0, rfl, unhide HE0, rfl⟩, (unhide HH).mono (Nat.le_succ _)⟩
    clear h0
    go_enter Tryz.func230, Tryz.ntmps230
    go_wp2_with fail
    refine (unhide HR).mono ?_
    rintro e w1 ⟨rfl, hw1⟩
    subst hw1
    go_wp2_with fail
    go_ret2
    exact ⟨_, _, rfl, HX⟩

end Go.Proofs.YtemologkibcdoaaGreatDoor

/- Directories (stage 13): New. -/
namespace Go.Proofs.YtemologkibcdoaaGreatDoor
open Go.RowKit Go.Maps

theorem root_all {n : Nat} (h : 1 ≤ n) : makeE (List.replicate n (none : Option Nd)) 2 = 0 ∧ makeN (List.replicate n (none : Option Nd)) 2 = 1 ∧ ∀ k, kdI (rootS n).T k = if k = 1 then 2 else 0 := by
  obtain ⟨m, rfl⟩ : ∃ m, n = m + 1 := ⟨n - 1, by omega⟩
  have hf : frAt (List.replicate (m + 1) (none : Option Nd)) = 0 := by unfold frAt; simp [List.replicate_succ, List.findIdx_cons]
  have hE : makeE (List.replicate (m + 1) none) 2 = 0 := by unfold makeE; rw [hf]; simp [kindOk]
  have hN : makeN (List.replicate (m + 1) none) 2 = 1 := by unfold makeN; rw [hf]; simp [kindOk]
  refine ⟨hE, hN, fun k => ?_⟩
  obtain ⟨a1, a2, a3⟩ := make_all hE
  rw [hN] at a3
  have a4 := a3 1
  rw [if_pos rfl] at a4
  show kdI (tieT (makeT (List.replicate (m + 1) none) 2) 1) k = _
  rw [(tie_all a4 k).2]
  unfold kdI
  rw [a3]
  split
  · rfl
  · have : ndAt (List.replicate (m + 1) (none : Option Nd)) k = none := by
      cases hx : ndAt (List.replicate (m + 1) (none : Option Nd)) k with
      | none => rfl
      | some x =>
        obtain ⟨j, _, hj, _⟩ := ndAt_some hx
        exact absurd hj (by rw [List.getElem?_replicate]; split <;> simp)
    rw [this]
    rfl
theorem ok_root {n : Nat} (h : 1 ≤ n) (h2 : n ≤ 1024) : NOk (rootS n) 1 := by
  refine ⟨keep_root h, good_tie (good_make (good_new n 0) 2) 1, ?_, fun x hx => ?_, Nat.zero_le _, fun k => ?_, fun d hd => ?_⟩
  · show (tieT (makeT (List.replicate n none) 2) 1).length ≤ 1024
    rw [tie_len, make_len, List.length_replicate]
    exact h2
  · have : x ∈ ([] : List Nm) := hx
    cases this
  · show 0 ≤ (if k = 1 then (1 : Int) else 0) ∧ (if k = 1 then (1 : Int) else 0) ≤ 1024
    split <;> decide
  · have hk := (root_all h).2.2
    rw [hk] at hd
    have e : d = 1 := by
      by_cases e : d = 1
      · exact e
      · rw [if_neg e] at hd; cases hd
    subst e
    refine .inr ?_
    show kdI (rootS n).T 1 = 2
    rw [hk, if_pos rfl]
theorem mk_dirs (W : World) : (Instr.makeMap 70 none).run Tryz.prog W = .ok (.map (some W.heap.size)) (W.alloc (.map #[] 0)) := by kernel_rfl
set_option maxRecDepth 20000 in
set_option maxHeartbeats 4000000 in
theorem rootAlone_any {w : World} {t nb m : Nat} {X : Nat → Prop} (h1 : 1 ≤ m) (htab : TAt w t X (List.replicate m none) nb) (hX : ∀ k, X k → k < w.heap.size) : Calls Tryz.prog 52 #[.pointer (some ⟨t, 0, none⟩)] w fun e w' => ∃ q, e = .returned (.pointer (some ⟨q, 0, none⟩)) ∧ Hid (w.heap.size ≤ q ∧ NdAt w' q (Fresh w X) (rootS m) nb ∧ GrownS w w' (Fresh w X)) := by
  have hmk := mk_dirs
  obtain ⟨W1, hW1⟩ : ∃ W1, W1 = w.alloc (.map #[] 0) := ⟨_, rfl⟩
  obtain ⟨W2, hW2⟩ : ∃ W2, W2 = W1.alloc (.cells #[.pointer (some ⟨t, 0, none⟩), .map (some w.heap.size)] 72) := ⟨_, rfl⟩
  have hb1 : Below w.heap.size w W1 := by rw [hW1]; exact (Below.refl _ w).alloc (Nat.le_refl _) _
  have hb2 : Below W1.heap.size W1 W2 := by rw [hW2]; exact (Below.refl _ W1).alloc (Nat.le_refl _) _
  have hs1 : W1.heap.size = w.heap.size + 1 := by rw [hW1]; simp
  have hs2 : W2.heap.size = w.heap.size + 2 := by rw [hW2]; simp [hs1]
  have hb12 : Below w.heap.size w W2 := hb1.trans (hb2.mono hb1.size)
  have hmap : MapV W2 3 w.heap.size (.map []) := mapV_grownS (S := fun _ => False) (by rw [hW1]; exact World.ownsMap_made (H := Value) w Tryz.prog 3 itself) (grownS_of_below hb2) (fun e => e)
  have hblk : Blk W2 W1.heap.size 72 #[.pointer (some ⟨t, 0, none⟩), .map (some w.heap.size)] := by rw [hW2]; exact Blk.new _ _ _
  have HG : Hid (GAt W2 W1.heap.size (Fresh w X) (List.replicate m none) [] (fun _ => 0) (fun _ => False) nb) := hide ⟨t, w.heap.size, fun _ => 0, X, ⟨hblk, htab.below hb12, fun k hk => by have := hX k hk; omega, fun h => by have := hX _ h; omega, fun h => by have := hX _ h; omega, ⟨.map [], hmap, fun d hd => hd.elim, fun d _ => rfl⟩, fun d hd => hd.elim, fun d e hd => hd.elim, fun d hd => hd.elim⟩, ⟨.inr hb1.size, .inr (Nat.le_refl _), fun d hd => hd.elim, fun k hk => .inl hk⟩⟩
  have HN2 : Hid (∀ k, W2.heap.size ≤ k → Fresh w X k) := hide (fun k hk => .inr (by omega))
  have HGR : Hid (GrownS w W2 (Fresh w X)) := hide (grownS_of_below hb12)
  obtain ⟨q, hq⟩ : ∃ q, q = W1.heap.size := ⟨_, rfl⟩
  have HQ : Hid (w.heap.size ≤ q) := hide (by rw [hq]; exact hb1.size)
  rw [← hq] at HG
  have HQ1 : Hid (w.heap.size + 1 = q) := hide (by rw [hq, hs1])
  obtain ⟨t1, X1, c0, htab1, hX1, hturn⟩ := (unhide HG).tbl (unhide HN2)
  have HMK := hide (tmake_any htab1 2 hX1)
  have HTU := hide hturn
  obtain ⟨r1, r2, r3⟩ := root_all h1
  have HR3 := hide r3
  rw [r1, r2] at HMK
  have HW2 : Hid (W2 = (w.alloc (.map #[] 0)).alloc (.cells #[.pointer (some ⟨t, 0, none⟩), .map (some w.heap.size)] 72)) := hide (by rw [hW2, hW1])
  clear hW1 hW2 hb1 hb2 hs1 hs2 hb12 hmap hblk htab hX htab1 hX1 hturn r1 r2 r3 hq
  go_enter Tryz.func52, Tryz.ntmps52
  go_upto_region 2 with fail
  rw [← unhide HW2]
  first | rw [unhide HQ1] | skip
  go_wp2_with fail
  refine (unhide HMK).mono ?_
  rintro e w3 ⟨rfl, k1, k2⟩
  have HG3 := hide (unhide HTU w3 _ k1 k2)
  have HN3 : Hid (∀ k, w3.heap.size ≤ k → Fresh w X k) := hide (fun k hk => unhide HN2 k (Nat.le_trans (unhide HG3).2.size hk))
  clear k1 k2 HMK HTU c0
  obtain ⟨t2, X2, c0, htab2, hX2, hturn2⟩ := (unhide HG3).1.tbl (unhide HN3)
  have HTI := hide (ttie_any htab2 1 (by decide) (fun k x hx => Nat.le_trans ((good_make (good_new m 0) 2) k x hx).2.1 (by decide)))
  have HTU2 := hide hturn2
  clear htab2 hX2 hturn2
  go_wp2_with fail
  refine (unhide HTI).mono ?_
  rintro e w4 ⟨rfl, k1, k2⟩
  have HG4 := hide (unhide HTU2 w4 _ k1 k2)
  have HN4 : Hid (∀ k, w4.heap.size ≤ k → Fresh w X k) := hide (fun k hk => unhide HN3 k (Nat.le_trans (unhide HG4).2.size hk))
  clear k1 k2 HTI HTU2 c0
  have HOP := hide (open_any (unhide HG4).1 (unhide HN4) 1 1 (by decide) (fun y hy => by cases hy))
  go_wp2_with fail
  refine (unhide HOP).mono ?_
  rintro e w5 ⟨rfl, HX⟩
  have HND : Hid (NdAt w5 q (Fresh w X) (rootS m) nb) := hide (GAt.toN (L := []) (par := parU (fun _ => 0) 1 1) (unhide HX).1 (fun d => by
    have := unhide HR3 d
    constructor
    · rintro (h | h)
      · subst h
        exact this
      · exact h.elim
    · intro h
      by_cases e : d = 1
      · exact .inl e
      · have h2 : kdI (rootS m).T d = 2 := h
        rw [this, if_neg e] at h2
        cases h2))
  go_wp2_with fail
  go_ret
  exact ⟨q, rfl, hide ⟨unhide HQ, unhide HND, (((unhide HGR).trans (unhide HG3).2).trans (unhide HG4).2).trans (unhide HX).2⟩⟩
/-- What New leaves. -/
def Newed (w w' : World) (f q : Nat) (m nb : Nat) (B : Bas) : Prop := ∃ Y, FX w' f q Y (rootS m) nb 1 B ∧ (∀ k, Y k → w.heap.size ≤ k) ∧ w.heap.size ≤ f ∧ Below w.heap.size w w'
set_option maxRecDepth 20000 in
set_option maxHeartbeats 1000000 in
theorem nnew_any (m b : Nat) (w : World) {B : Bas} (E : EnvB w B) (h1 : 1 ≤ m) (h2 : m ≤ 1024) (h3 : 1 ≤ b) (h4 : b ≤ 4096) : Calls Tryz.prog 29 #[.int .i64 (m : Int), .int .i64 (b : Int)] w fun e w' => ∃ f q, e = .returned (.tuple #[.pointer (some ⟨f, 0, none⟩), .int .i64 0]) ∧ Hid (Newed w w' f q m b B) := by
  have HT := hide (tnew_any m b w h1 h2 h3 h4)
  have HE := hide E
  have HOK := hide (ok_root h1 h2)
  go_enter Tryz.func29, Tryz.ntmps29
  go_wp2_with fail
  refine (unhide HT).mono ?_
  rintro e w1 ⟨t, rfl, HX⟩
  have HRA := hide (rootAlone_any (X := fun k => w.heap.size ≤ k ∧ k < w1.heap.size) h1 ((unhide HX).1.mono (fun k hk hx => ⟨hx, hk⟩)) (fun k hk => hk.2))
  go_wp2_with fail
  refine (unhide HRA).mono ?_
  rintro e w2 ⟨q, rfl, HY⟩
  have hgr := (unhide HY).2.2
  have hnd := (unhide HY).2.1
  have hb2 : Below w2.heap.size w2 (w2.alloc (.cells #[.pointer (some ⟨q, 0, none⟩)] 68)) := (Below.refl _ w2).alloc (Nat.le_refl _) _
  have hz : ∀ k, Fresh w1 (fun k => w.heap.size ≤ k ∧ k < w1.heap.size) k → w.heap.size ≤ k := fun k hk => hk.elim (fun h => h.1) (fun h => Nat.le_trans (unhide HX).2.size h)
  have hbel : Below w.heap.size w w2 := (unhide HX).2.trans (hgr.below (unhide HX).2.size hz)
  have hblk := Blk.new w2 68 #[.pointer (some ⟨q, 0, none⟩)]
  have hs : (w2.alloc (.cells #[.pointer (some ⟨q, 0, none⟩)] 68)).heap.size = w2.heap.size + 1 := by simp
  have hnd2 : NdAt w2 q (fun k => w.heap.size ≤ k ∧ k ≠ w2.heap.size) (rootS m) b := hnd.mono (fun k hk hy => ⟨hz k hy, by omega⟩)
  have HN : Hid (Newed w (w2.alloc (.cells #[.pointer (some ⟨q, 0, none⟩)] 68)) w2.heap.size q m b B) := hide ⟨fun k => w.heap.size ≤ k ∧ k ≠ w2.heap.size, ⟨⟨hnd2.below hb2, unhide HOK, ((unhide HE).below hbel).below hb2, fun k hk => (unhide HE).le k hk.1⟩, hblk, fun h => h.2 rfl, fun k hk => ⟨by have := hbel.size; omega, by omega⟩⟩, fun k hk => hk.1, hbel.size, hbel.trans (hb2.mono hbel.size)⟩
  clear hnd2
  clear hgr hnd hb2 hz hbel hblk hs
  go_wp2_with fail
  go_ret2
  exact ⟨_, q, rfl, HN⟩

end Go.Proofs.YtemologkibcdoaaGreatDoor

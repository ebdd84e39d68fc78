/-
  Directories (stage 13): Stat, refuseBytes, Write.
  Directories (stage 13): what Rename leaves.
  Directories (stage 13): Rename.
-/
import Derived.Test.YtdmmjidekpgmgaaGreatDoorM17
/- Directories (stage 13): Stat, refuseBytes, Write. -/
namespace Go.Proofs.YtdmmjidekpgmgaaGreatDoor
open Go.RowKit Go.Maps

theorem res_info {fn : Func} {t u : Tmp} (h : fn.results = #[.cell t 55, .tmp u]) (tmps : Array Value) (w : World) (b : Nat) (x0 x1 x2 : Value) (ht : tmps.getD t undef = .pointer (some ⟨b, 0, none⟩))
    (h0 : w.cell? ⟨b, 0, none⟩ = some x0) (h1 : w.cell? ⟨b, 1, none⟩ = some x1) (h2 : w.cell? ⟨b, 2, none⟩ = some x2) :
    (results fn tmps).run Tryz.prog w = .ok (.tuple #[.agg #[x0, x1, x2], tmps.getD u undef]) w := by
  have ht' : tmps[t]?.getD undef = .pointer (some ⟨b, 0, none⟩) := by simpa using ht
  unfold results
  rw [h]
  simp [ht', go_sem, h0, h1, h2]
theorem below_set3 {w W : World} {pb : Nat} (hb : Below w.heap.size w W) (hp : w.heap.size ≤ pb) (u v x : Value) : Below w.heap.size w (((W.setCell ⟨pb, 0, none⟩ u).setCell ⟨pb, 1, none⟩ v).setCell ⟨pb, 2, none⟩ x) := by
  have g : GrownS ((W.setCell ⟨pb, 0, none⟩ u).setCell ⟨pb, 1, none⟩ v) (((W.setCell ⟨pb, 0, none⟩ u).setCell ⟨pb, 1, none⟩ v).setCell ⟨pb, 2, none⟩ x) (fun k => k = pb) := GrownS.of (grown_setCell _ _ _) (fun k e => by simpa using e)
  have h2 := below_set2 hb hp u v
  exact h2.trans (g.below h2.size (fun k e => by rw [e]; exact hp))
def statK (s : NS) (d : Int) : Nat := kdI s.T d
def statZ (s : NS) (d : Int) : Nat := if kdI s.T d = 2 then (inL s.L d).length else sizeOfN (ndAt s.T d)
def statE (s : NS) (d : Int) : Int := if kdI s.T d = 0 then 23 else 0
set_option maxRecDepth 20000 in
set_option maxHeartbeats 4000000 in
theorem stat_any {w : World} {f q nb n : Nat} {B : World} {Y : Nat → Prop} {s : NS} (H : FX w f q Y s nb n B) (d : Int) (hb : -9223372036854775808 ≤ d ∧ d ≤ 9223372036854775807) : Calls Tryz.prog 27 #[.pointer (some ⟨f, 0, none⟩), .int .i64 d] w fun e w' => e = .returned (.tuple #[.agg #[.int .i64 (statK s d : Int), .int .i64 (if kdI s.T d = 0 then 0 else (statZ s d : Int)), .int .i64 (if kdI s.T d = 0 then 0 else (nmI s.T d : Int))], .int .i64 (statE s d)]) ∧ Below w.heap.size w w' := by
  have hbw : Below w.heap.size w (w.alloc (.cells #[.int .i64 0, .int .i64 0, .int .i64 0] 55)) := (Below.refl _ w).alloc (Nat.le_refl _) _
  have hnew := Blk.new w 55 #[.int .i64 0, .int .i64 0, .int .i64 0]
  have H1 := H.below hbw
  obtain ⟨pb, hpb⟩ : ∃ pb, pb = w.heap.size := ⟨_, rfl⟩
  have HPB : Hid (w.heap.size ≤ pb) := hide (by rw [hpb]; exact Nat.le_refl _)
  have HPB0 := hide hpb
  rw [← hpb] at hnew
  obtain ⟨W1, hW1⟩ : ∃ W1, W1 = (w.alloc (.cells #[.int .i64 0, .int .i64 0, .int .i64 0] 55)) := ⟨_, rfl⟩
  have HW1 := hide hW1
  rw [← hW1] at hbw hnew H1
  have HK2 := hide hnew
  have HB2 := hide hbw
  have f0 : W1.cell? ⟨pb, 0, none⟩ = some (.int .i64 0) := hnew.cell 0 rfl
  have f1 : W1.cell? ⟨pb, 1, none⟩ = some (.int .i64 0) := hnew.cell 1 rfl
  have f2 : W1.cell? ⟨pb, 2, none⟩ = some (.int .i64 0) := hnew.cell 2 rfl
  have f3 : W1.frozen? ⟨pb, 0, none⟩ = false := hnew.frozen 0
  have f4 : W1.frozen? ⟨pb, 1, none⟩ = false := hnew.frozen 1
  have f5 : W1.frozen? ⟨pb, 2, none⟩ = false := hnew.frozen 2
  have c0 : W1.cell? ⟨f, 0, none⟩ = some (.pointer (some ⟨q, 0, none⟩)) := H1.blk.cell 0 rfl
  have HK := hide (nkind_any H1 d hb)
  obtain ⟨t, dm, M, X, HL, _⟩ := H1.nd.at'
  have c1 : W1.cell? ⟨q, 0, none⟩ = some (.pointer (some ⟨t, 0, none⟩)) := HL.nds.cell 0 rfl
  have c2 : W1.cell? ⟨q, 1, none⟩ = some (.map (some dm)) := HL.nds.cell 1 rfl
  have HSZ := hide (HL.size d hb)
  have HLK := hide (HL.links d hb)
  have hl := HL.look hb
  have hln := HL.lenN H.nd.ok.inv d
  obtain ⟨mm, hmm⟩ : ∃ mm, mm = mapOf s M d := ⟨_, rfl⟩
  obtain ⟨pp, hpp⟩ : ∃ pp, pp = parOf s d := ⟨_, rfl⟩
  rw [← hmm, ← hpp] at hl
  rw [← hmm, inN_is] at hln
  have hfd := fld_dir pp mm
  unfold statK statZ statE
  change Hid (Calls _ _ _ _ fun e w' => e = .returned (.int .i64 (nmI s.T d : Int)) ∧ _) at HLK
  obtain ⟨k, hk⟩ : ∃ k, k = kdI s.T d := ⟨_, rfl⟩
  obtain ⟨z, hz⟩ : ∃ z, z = sizeOfN (ndAt s.T d) := ⟨_, rfl⟩
  obtain ⟨nn, hnn⟩ : ∃ nn, nn = nmI s.T d := ⟨_, rfl⟩
  obtain ⟨il, hil⟩ : ∃ il, il = (inL s.L d).length := ⟨_, rfl⟩
  rw [← hk] at HK
  rw [← hz] at HSZ
  rw [← hnn] at HLK
  rw [← hil] at hln
  rw [← hk, ← hz, ← hnn, ← hil]
  clear H H1 HL hmm hpp hk hz hnn hil hnew hbw hpb hW1
  by_cases h0 : k = 0
  · subst h0
    go_enter Tryz.func27, Tryz.ntmps27
    go_wp2_with fail
    rw [← unhide HW1, ← unhide HPB0]
    refine (unhide HK).mono ?_
    rintro e w1 ⟨rfl, hw1⟩
    have hw2 := hw1.symm
    subst hw2
    clear hw1
    go_wp2_with fail
    refine bodyPost_ret (res_info rfl _ _ pb _ _ _ rfl (by first | exact ((((unhide HK2).set 0 _).set 1 _).set 2 _).cell 0 rfl | exact (unhide HK2).cell 0 rfl) (by first | exact ((((unhide HK2).set 0 _).set 1 _).set 2 _).cell 1 rfl | exact (unhide HK2).cell 1 rfl) (by first | exact ((((unhide HK2).set 0 _).set 1 _).set 2 _).cell 2 rfl | exact (unhide HK2).cell 2 rfl)) rfl ⟨rfl, by first | exact below_set3 (unhide HB2) (unhide HPB) _ _ _ | exact unhide HB2⟩
  · rw [if_neg h0] at HK
    simp only [if_neg h0]
    by_cases h2 : k = 2
    · subst h2
      simp only [if_true]
      go_enter Tryz.func27, Tryz.ntmps27
      go_wp2_with fail
      rw [← unhide HW1, ← unhide HPB0]
      refine (unhide HK).mono ?_
      rintro e w1 ⟨rfl, hw1⟩
      have hw2 := hw1.symm
      subst hw2
      clear hw1
      go_wp2_with fail
      refine (unhide HSZ).mono ?_
      rintro e w1 ⟨rfl, hw1⟩
      have hw2 := hw1.symm
      subst hw2
      clear hw1
      go_wp2_with fail
      refine (unhide HLK).mono ?_
      rintro e w1 ⟨rfl, hw1⟩
      have hw2 := hw1.symm
      subst hw2
      clear hw1
      go_wp2_with fail
      refine bodyPost_ret (res_info rfl _ _ pb _ _ _ rfl (by first | exact ((((unhide HK2).set 0 _).set 1 _).set 2 _).cell 0 rfl | exact (unhide HK2).cell 0 rfl) (by first | exact ((((unhide HK2).set 0 _).set 1 _).set 2 _).cell 1 rfl | exact (unhide HK2).cell 1 rfl) (by first | exact ((((unhide HK2).set 0 _).set 1 _).set 2 _).cell 2 rfl | exact (unhide HK2).cell 2 rfl)) rfl ⟨rfl, by first | exact below_set3 (unhide HB2) (unhide HPB) _ _ _ | exact unhide HB2⟩
    · simp only [if_neg h2]
      have h3 : (((k : Nat) : Int) == 2) = false := by rw [beq_eq_false_iff_ne]; omega
      clear h0 h2
      go_enter Tryz.func27, Tryz.ntmps27
      go_wp2_with fail
      rw [← unhide HW1, ← unhide HPB0]
      refine (unhide HK).mono ?_
      rintro e w1 ⟨rfl, hw1⟩
      have hw2 := hw1.symm
      subst hw2
      clear hw1
      go_wp2_with fail
      refine (unhide HSZ).mono ?_
      rintro e w1 ⟨rfl, hw1⟩
      have hw2 := hw1.symm
      subst hw2
      clear hw1
      go_wp2_with fail
      refine (unhide HLK).mono ?_
      rintro e w1 ⟨rfl, hw1⟩
      have hw2 := hw1.symm
      subst hw2
      clear hw1
      go_wp2_with fail
      refine bodyPost_ret (res_info rfl _ _ pb _ _ _ rfl (by first | exact ((((unhide HK2).set 0 _).set 1 _).set 2 _).cell 0 rfl | exact (unhide HK2).cell 0 rfl) (by first | exact ((((unhide HK2).set 0 _).set 1 _).set 2 _).cell 1 rfl | exact (unhide HK2).cell 1 rfl) (by first | exact ((((unhide HK2).set 0 _).set 1 _).set 2 _).cell 2 rfl | exact (unhide HK2).cell 2 rfl)) rfl ⟨rfl, by first | exact below_set3 (unhide HB2) (unhide HPB) _ _ _ | exact unhide HB2⟩
def filE (s : NS) (d : Int) : Int := if kdI s.T d = 0 then 23 else if kdI s.T d = 2 then 24 else if kdI s.T d = 3 then 1 else 0
set_option maxRecDepth 20000 in
set_option maxHeartbeats 1000000 in
theorem refuseBytes_any {w : World} {f q nb n : Nat} {B : World} {Y : Nat → Prop} {s : NS} (H : FX w f q Y s nb n B) (d : Int) (hb : -9223372036854775808 ≤ d ∧ d ≤ 9223372036854775807) : Calls Tryz.prog 59 #[.pointer (some ⟨f, 0, none⟩), .int .i64 d] w fun e w' => e = .returned (.int .i64 (filE s d)) ∧ w' = w := by
  have HK := hide (nkind_any H d hb)
  unfold filE
  obtain ⟨k, hk⟩ : ∃ k, k = kdI s.T d := ⟨_, rfl⟩
  rw [← hk] at HK ⊢
  clear H hk
  by_cases h0 : k = 0
  · subst h0
    go_enter Tryz.func59, Tryz.ntmps59
    go_wp2_with fail
    refine (unhide HK).mono ?_
    rintro e w1 ⟨rfl, hw1⟩
    subst hw1
    go_wp2_with fail
    go_ret
    exact ⟨rfl, rfl⟩
  · rw [if_neg h0] at HK ⊢
    by_cases h2 : k = 2
    · subst h2
      go_enter Tryz.func59, Tryz.ntmps59
      go_wp2_with fail
      refine (unhide HK).mono ?_
      rintro e w1 ⟨rfl, hw1⟩
      subst hw1
      go_wp2_with fail
      go_ret
      exact ⟨rfl, rfl⟩
    · have h22 : (((k : Nat) : Int) == 2) = false := by rw [beq_eq_false_iff_ne]; omega
      rw [if_neg h2]
      by_cases h3 : k = 3
      · subst h3
        go_enter Tryz.func59, Tryz.ntmps59
        go_wp2_with fail
        refine (unhide HK).mono ?_
        rintro e w1 ⟨rfl, hw1⟩
        subst hw1
        go_wp2_with fail
        go_ret
        exact ⟨rfl, rfl⟩
      · have h33 : (((k : Nat) : Int) == 3) = false := by rw [beq_eq_false_iff_ne]; omega
        rw [if_neg h3]
        clear h0 h2 h3
        go_enter Tryz.func59, Tryz.ntmps59
        go_wp2_with fail
        refine (unhide HK).mono ?_
        rintro e w1 ⟨rfl, hw1⟩
        subst hw1
        go_wp2_with fail
        go_ret
        exact ⟨rfl, rfl⟩
/-- What Write leaves. -/
def WrtSp (s : NS) (nb : Nat) (d a : Int) (x : List UInt8) (N E : Int) (s' : NS) : Prop := (filE s d ≠ 0 ∧ N = 0 ∧ E = filE s d ∧ s' = s) ∨ (filE s d = 0 ∧ ∃ T', WrSp s.T (nb - usedT s.T) d a x N E T' ∧ s' = { s with T := T' })
set_option maxRecDepth 20000 in
set_option maxHeartbeats 1000000 in
theorem fwrite_any {w : World} {f q nb n : Nat} {B : World} {Y : Nat → Prop} {s : NS} (H : FX w f q Y s nb n B) (d a : Int) (x : List UInt8) (hb : -9223372036854775808 ≤ d ∧ d ≤ 9223372036854775807) (ha : a ≤ 9223372036854775807) (hx : x.length ≤ 100000) : Calls Tryz.prog 17 #[.pointer (some ⟨f, 0, none⟩), .int .i64 d, .int .i64 a, .string (BA x)] w fun e w' => ∃ N E, e = .returned (.tuple #[.int .i64 N, .int .i64 E]) ∧ Hid (∃ s', WrtSp s nb d a x N E s' ∧ FX w' f q Y s' nb (n + 1) B) := by
  have c0 : w.cell? ⟨f, 0, none⟩ = some (.pointer (some ⟨q, 0, none⟩)) := H.blk.cell 0 rfl
  have HR := hide (refuseBytes_any H d hb)
  obtain ⟨t, X, c1, htab, hX, hturn⟩ := (H.nd.at'.toG H.nd.ok).tbl H.new
  have HT := hide (twrite_any htab (fun k y hy => (H.nd.ok.gd k y hy).1.size) d a x hb ha (by omega))
  have HTU := hide hturn
  have HH := hide H
  obtain ⟨E0, hE0⟩ : ∃ E0, E0 = filE s d := ⟨_, rfl⟩
  have HE0 := hide hE0
  rw [← hE0] at HR
  clear H htab hX hturn hE0
  by_cases h0 : E0 = 0
  · subst h0
    go_enter Tryz.func17, Tryz.ntmps17
    go_wp2_with fail
    refine (unhide HR).mono ?_
    rintro e w1 ⟨rfl, hw1⟩
    subst hw1
    go_wp2_with fail
    refine (unhide HT).mono ?_
    rintro e w2 ⟨N, E, rfl, HWL⟩
    go_wp2_with fail
    go_ret2
    obtain ⟨T', k1, k2, k3⟩ := unhide HWL
    have hg := unhide HTU w2 _ k2 k3
    exact ⟨_, _, rfl, hide ⟨_, .inr ⟨(unhide HE0).symm, T', k1, rfl⟩, (unhide HH).table hg.1 hg.2 (fun k => by rw [(wr_all k1 k).2]) (quiet_ok (unhide HH).nd.ok ⟨fun k => (wr_all k1 k).1, fun k _ => (wr_all k1 k).2⟩ ((good_wr (unhide HH).nd.ok.gd k1).mono (Nat.le_succ _)) (Nat.le_succ _) (wr_len k1))⟩⟩
  · have hE1 : (E0 != 0) = true := by simpa using h0
    have HX : Hid (∃ s', WrtSp s nb d a x 0 E0 s' ∧ FX w f q Y s' nb (n + 1) B) := hide ⟨s, .inl ⟨by rw [← unhide HE0]; exact h0, rfl, unhide HE0, rfl⟩, (unhide HH).mono (Nat.le_succ _)⟩
    clear h0
    go_enter Tryz.func17, Tryz.ntmps17
    go_wp2_with fail
    refine (unhide HR).mono ?_
    rintro e w1 ⟨rfl, hw1⟩
    subst hw1
    go_wp2_with fail
    go_ret2
    exact ⟨_, _, rfl, HX⟩

end Go.Proofs.YtdmmjidekpgmgaaGreatDoor

/- Directories (stage 13): what Rename leaves. -/
namespace Go.Proofs.YtdmmjidekpgmgaaGreatDoor
open Go.RowKit Go.Maps

theorem tie_unt {T : TB} {i : Int} (h : 1 ≤ nmI T i) : untT (tieT T i) i = T := by
  unfold nmI at h
  cases hx : ndAt T i with
  | none => rw [hx] at h; exact absurd h (by simp [namesOf])
  | some x =>
    rw [hx] at h
    have h : 1 ≤ x.names := h
    obtain ⟨k, rfl, hk, hl⟩ := ndAt_some hx
    have e1 : tieT T ((k : Int) + 1) = T.set k (some (tieN x)) := by unfold tieT; rw [hx]; dsimp only; rw [plc_of]
    have e2 : ndAt (T.set k (some (tieN x))) ((k : Int) + 1) = some (tieN x) := by rw [ndAt_set hl, if_pos rfl]
    rw [e1]
    unfold untT
    rw [e2]
    dsimp only
    have e3 : untN (tieN x) = x := rfl
    rw [if_neg (by show ¬ x.names + 1 = 0; omega), plc_of, e3]
    unfold leftN
    rw [if_neg (fun hh => by omega), List.set_set]
    have : T = T.set k (some x) := by
      apply List.ext_getElem?
      intro j
      rw [List.getElem?_set]
      split
      · rename_i e; subst e; first | exact hk | rw [if_pos hl, hk]
      · rfl
    exact this.symm
theorem srt_ext : ∀ {A B : List Nm}, Srt A → Srt B → (∀ x, x ∈ A ↔ x ∈ B) → A = B
  | [], [], _, _, _ => rfl
  | [], b :: B, _, _, h => by have := (h b).2 List.mem_cons_self; cases this
  | a :: A, [], _, _, h => by have := (h a).1 List.mem_cons_self; cases this
  | a :: A, b :: B, hA, hB, h => by
    obtain ⟨a1, a2⟩ := List.pairwise_cons.1 hA
    obtain ⟨b1, b2⟩ := List.pairwise_cons.1 hB
    have e : a = b := by
      rcases List.mem_cons.1 ((h a).1 List.mem_cons_self) with e | e
      · exact e
      · rcases List.mem_cons.1 ((h b).2 List.mem_cons_self) with e2 | e2
        · exact e2.symm
        · have h1 := ltM_trans (b1 a e) (a1 b e2)
          rw [ltM_irr] at h1
          cases h1
    subst e
    congr 1
    refine srt_ext a2 b2 (fun x => ?_)
    constructor
    · intro hx
      rcases List.mem_cons.1 ((h x).1 (List.mem_cons_of_mem _ hx)) with e | e
      · subst e
        have := a1 x hx
        rw [ltM_irr] at this
        cases this
      · exact e
    · intro hx
      rcases List.mem_cons.1 ((h x).2 (List.mem_cons_of_mem _ hx)) with e | e
      · subst e
        have := b1 x hx
        rw [ltM_irr] at this
        cases this
      · exact e
/-- A name is put, and another one dropped: in either order. -/
theorem put_drop {L : List Nm} (h : Srt L) {x : Nm} {d : Int} {n : List UInt8} (hno : ∀ y ∈ L, ¬ (y.dir = x.dir ∧ y.name = x.name)) (hne : ¬ (x.dir = d ∧ x.name = n)) : dropL (putL L x) d n = putL (dropL L d n) x := by
  refine srt_ext ((h.put hno).drop d n) ((h.drop d n).put (fun y hy => hno y (mem_drop.1 hy).1)) (fun y => ?_)
  rw [mem_drop, mem_put, mem_put, mem_drop]
  constructor
  · rintro ⟨h1 | h1, h2⟩
    · exact .inl h1
    · exact .inr ⟨h1, h2⟩
  · rintro (h1 | ⟨h1, h2⟩)
    · exact ⟨.inl h1, by rw [h1]; exact hne⟩
    · exact ⟨.inr h1, h2⟩
theorem drop_len1 {L : List Nm} (h : Srt L) {x : Nm} (hx : x ∈ L) : (dropL L x.dir x.name).length + 1 = L.length := by
  have := count_drop h hx (fun _ => true)
  simp at this
  omega
theorem ok_ren {s : NS} {n : Nat} (K : NOk s n) {dir : Int} {p q : List UInt8} : NOk (renS s (placeN s dir p) (placeN s dir q) (findN s (placeN s dir p).1 (placeN s dir p).2.1) (findN s (placeN s dir q).1 (placeN s dir q).2.1)) n := by
  have hi := keep_ren K.inv (dir := dir) (p := p) (q := q)
  generalize hA : placeN s dir p = A at hi ⊢
  generalize hB : placeN s dir q = B at hi ⊢
  have key : ∀ s1 : NS, NOk s1 n → ∀ x ∈ s1.L, x.dir = A.1 → x.name = A.2.1 → B.2.2 = 0 → ∀ i, (renT s1 A B i).T.length ≤ 1024 ∧ TGood (renT s1 A B i).T n ∧ (∀ y ∈ (renT s1 A B i).L, NmOk y.name) ∧ (renT s1 A B i).L.length ≤ n ∧ ∀ k, 0 ≤ (renT s1 A B i).par k ∧ (renT s1 A B i).par k ≤ 1024 := by
    intro s1 K1 x hx e1 e2 hb i
    refine ⟨K1.max, K1.gd, fun y hy => ?_, ?_, fun k => ?_⟩
    · rcases mem_put.1 hy with rfl | hy
      · show NmOk B.2.1
        rw [← hB] at hb ⊢
        exact place_nm hb
      · exact K1.nm y (mem_drop.1 hy).1
    · show (putL (dropL s1.L A.1 A.2.1) _).length ≤ n
      rw [put_len']
      have := drop_len1 K1.inv.srt hx
      rw [e1, e2] at this
      rw [this]
      exact K1.len
    · show 0 ≤ parU _ _ _ k ∧ parU _ _ _ k ≤ 1024
      unfold parU
      split
      · rw [← hB] at hb ⊢
        have := place_rng K hb
        omega
      · exact K1.par k
  unfold renS at hi ⊢
  by_cases h : renE s A B (findN s A.1 A.2.1) (findN s B.1 B.2.1) = 0 ∧ findN s A.1 A.2.1 ≠ findN s B.1 B.2.1
  · rw [if_pos h] at hi ⊢
    obtain ⟨h1, h2, h3, h4, h5, h6⟩ := ren_ok h.1 h.2
    obtain ⟨x, hx, e1, e2, e3⟩ := find_some h3
    by_cases hk : 0 < findN s B.1 B.2.1
    · rw [if_pos hk] at hi ⊢
      have hk0 : findN s B.1 B.2.1 ≠ 0 := by omega
      have K1 : NOk (goneS s B.1 B.2.1) n := ok_gone K hk0 (fun _ => h6 hk)
      obtain ⟨y, hy, f1, f2, f3⟩ := find_some hk0
      have hx1 : x ∈ (goneS s B.1 B.2.1).L := mem_drop.2 ⟨hx, fun e => h.2 (by
        have : x = y := K.inv.srt.key hx hy (e.1.trans f1.symm) (e.2.trans f2.symm)
        rw [← e3, ← f3, this])⟩
      obtain ⟨a1, a2, a3, a4, a5⟩ := key _ K1 x hx1 e1 e2 h2 (findN s A.1 A.2.1)
      exact ⟨hi, a2, a1, a3, a4, a5⟩
    · rw [if_neg hk] at hi ⊢
      obtain ⟨a1, a2, a3, a4, a5⟩ := key _ K x hx e1 e2 h2 (findN s A.1 A.2.1)
      exact ⟨hi, a2, a1, a3, a4, a5⟩
  · rw [if_neg h]
    exact K
/-- The end of Rename, in memory: s1 is what is left when the other name is gone. -/
theorem ren_mem {w' : World} {q nb : Nat} {Y : Nat → Prop} {s1 : NS} {A B : Int × List UInt8 × Int} {i : Int} (hn : 1 ≤ nmI s1.T i) (hs : Srt s1.L) (hno : ∀ y ∈ s1.L, ¬ (y.dir = B.1 ∧ y.name = B.2.1)) (hne : ¬ (B.1 = A.1 ∧ B.2.1 = A.2.1)) :
    (kdI s1.T i ≠ 2 → GAt w' q Y (untT (tieT s1.T i) i) (dropL (putL s1.L ⟨B.1, B.2.1, i⟩) A.1 A.2.1) s1.par (keepD (untT (tieT s1.T i) i) i (fun d => kdI s1.T d = 2)) nb → NdAt w' q Y (renT s1 A B i) nb) ∧
    (kdI s1.T i = 2 → GAt w' q Y (untT (tieT s1.T i) i) (dropL (putL s1.L ⟨B.1, B.2.1, i⟩) A.1 A.2.1) (parU s1.par i B.1) (keepD (untT (tieT s1.T i) i) i (fun d => kdI s1.T d = 2)) nb → NdAt w' q Y (renT s1 A B i) nb) := by
  rw [tie_unt hn, put_drop (x := ⟨B.1, B.2.1, i⟩) hs hno hne]
  have hD : ∀ d, keepD s1.T i (fun d => kdI s1.T d = 2) d ↔ kdI s1.T d = 2 := fun d => ⟨fun h => h.1, fun h => ⟨h, fun h0 e => by rw [e, h0] at h; cases h⟩⟩
  refine ⟨fun hk hg => ?_, fun hk hg => GAt.toN hg hD⟩
  exact GAt.toN (hg.par (fun d hd => if_neg (fun e => hk (by rw [← e]; exact hd.1)))) hD
/-- What Rename answers, in the program's order. -/
theorem ren_is {s : NS} {n : Nat} (K : NOk s n) {A B : Int × List UInt8 × Int} (i k : Int) (h1 : A.2.2 = 0) (h2 : B.2.2 = 0) (h3 : i ≠ 0) (h4 : nmI s.T B.1 ≠ 0) : renE s A B i k = if i = k then 0 else if isD s i = true ∧ belP s B.1 i = true then 35 else if 0 < k then overE s i k else 0 := by
  unfold renE
  rw [if_neg (by rw [h1]; decide), if_neg (by rw [h2]; decide), if_neg (by rintro (h | h); exact h3 h; exact h4 h)]
  by_cases h5 : i = k
  · rw [if_pos h5, if_pos h5]
  · rw [if_neg h5, if_neg h5]
    by_cases h6 : isD s i = true ∧ belP s B.1 i = true
    · rw [if_pos h6, if_pos h6]
    · rw [if_neg h6, if_neg h6]
      by_cases h7 : 0 < k
      · rw [if_pos h7, if_pos h7]
        unfold overE
        split
        · rfl
        · split
          · rfl
          · rename_i g1 g2
            cases hi : isD s i with
            | true =>
              rw [hi] at g1 g2
              by_cases hin : inN s k = []
              · rw [if_neg (fun h => h hin), hin]; simp
              · rw [if_pos hin]
                cases hl : inN s k with
                | nil => exact absurd hl hin
                | cons => simp
            | false =>
              rw [hi] at g1 g2
              have hk : isD s k = false := by
                cases hkk : isD s k with
                | false => rfl
                | true => exact absurd ⟨rfl, hkk⟩ g2
              have hin : inN s k = [] := in_no K.inv (fun e => by have : isD s k = true := decide_eq_true e; rw [hk] at this; cases this)
              rw [if_neg (fun h => h hin)]
              simp
      · rw [if_neg h7, if_neg h7]

end Go.Proofs.YtdmmjidekpgmgaaGreatDoor

/- Directories (stage 13): Rename. -/
namespace Go.Proofs.YtdmmjidekpgmgaaGreatDoor
open Go.RowKit Go.Maps

/-- While Rename goes: the tree, and both places. -/
structure Rn (w W : World) (f q : Nat) (Y Z : Nat → Prop) (s : NS) (nb n : Nat) (B : World) (ob ab : Nat) (N1 : Int) (t1 : List UInt8) (N2 : Int) (t2 : List UInt8) : Prop where
  fx : FX W f q Z s nb n B
  o : Blk W ob 91 #[.int .i64 N1, .string (BA t1)]
  a : Blk W ab 91 #[.int .i64 N2, .string (BA t2)]
  zo : ¬ Z ob
  za : ¬ Z ab
  zy : ∀ k, Z k → Y k
  gr : GrownS w W Y
def Cs (w' : World) (f q ob ab : Nat) (N1 : Int) (t1 : List UInt8) (N2 : Int) (t2 : List UInt8) : Prop := (w'.cell? ⟨f, 0, none⟩ = some (.pointer (some ⟨q, 0, none⟩)) ∧ w'.cell? ⟨ob, 0, none⟩ = some (.int .i64 N1) ∧ w'.cell? ⟨ob, 1, none⟩ = some (.string (BA t1)) ∧ w'.cell? ⟨ab, 0, none⟩ = some (.int .i64 N2) ∧ w'.cell? ⟨ab, 1, none⟩ = some (.string (BA t2)))
structure Gn (w W : World) (f q : Nat) (Y Z : Nat → Prop) (T : TB) (L : List Nm) (par : Int → Int) (D : Int → Prop) (nb ob ab : Nat) (N1 : Int) (t1 : List UInt8) (N2 : Int) (t2 : List UInt8) : Prop where
  at' : GAt W q Z T L par D nb
  blk : Blk W f 83 #[.pointer (some ⟨q, 0, none⟩)]
  nf : ¬ Z f
  new : ∀ k, W.heap.size ≤ k → Z k
  o : Blk W ob 91 #[.int .i64 N1, .string (BA t1)]
  a : Blk W ab 91 #[.int .i64 N2, .string (BA t2)]
  zo : ¬ Z ob
  za : ¬ Z ab
  zy : ∀ k, Z k → Y k
  gr : GrownS w W Y
theorem Rn.below {w W : World} {f q : Nat} {Y Z : Nat → Prop} {s : NS} {nb n : Nat} {B : World} {ob ab : Nat} {N1 : Int} {t1 : List UInt8} {N2 : Int} {t2 : List UInt8} {W' : World} (H : Rn w W f q Y Z s nb n B ob ab N1 t1 N2 t2) (hb : Below W.heap.size W W') : Rn w W' f q Y Z s nb n B ob ab N1 t1 N2 t2 := ⟨H.fx.below hb, H.o.below hb H.o.lt, H.a.below hb H.a.lt, H.zo, H.za, H.zy, H.gr.trans (grownS_of_below hb)⟩
theorem Rn.cs {w W : World} {f q : Nat} {Y Z : Nat → Prop} {s : NS} {nb n : Nat} {B : World} {ob ab : Nat} {N1 : Int} {t1 : List UInt8} {N2 : Int} {t2 : List UInt8} (H : Rn w W f q Y Z s nb n B ob ab N1 t1 N2 t2) : Cs W f q ob ab N1 t1 N2 t2 := ⟨H.fx.blk.cell 0 rfl, H.o.cell 0 rfl, H.o.cell 1 rfl, H.a.cell 0 rfl, H.a.cell 1 rfl⟩
theorem Gn.cs {w W : World} {f q : Nat} {Y Z : Nat → Prop} {T : TB} {L : List Nm} {par : Int → Int} {D : Int → Prop} {nb ob ab : Nat} {N1 : Int} {t1 : List UInt8} {N2 : Int} {t2 : List UInt8} (H : Gn w W f q Y Z T L par D nb ob ab N1 t1 N2 t2) : Cs W f q ob ab N1 t1 N2 t2 := ⟨H.blk.cell 0 rfl, H.o.cell 0 rfl, H.o.cell 1 rfl, H.a.cell 0 rfl, H.a.cell 1 rfl⟩
theorem Gn.below {w W : World} {f q : Nat} {Y Z : Nat → Prop} {T : TB} {L : List Nm} {par : Int → Int} {D : Int → Prop} {nb ob ab : Nat} {N1 : Int} {t1 : List UInt8} {N2 : Int} {t2 : List UInt8} {W' : World} (H : Gn w W f q Y Z T L par D nb ob ab N1 t1 N2 t2) (hb : Below W.heap.size W W') : Gn w W' f q Y Z T L par D nb ob ab N1 t1 N2 t2 := ⟨H.at'.below hb, H.blk.below hb H.blk.lt, H.nf, fun k hk => H.new k (Nat.le_trans hb.size hk), H.o.below hb H.o.lt, H.a.below hb H.a.lt, H.zo, H.za, H.zy, H.gr.trans (grownS_of_below hb)⟩
theorem Gn.turn {w W : World} {f q : Nat} {Y Z : Nat → Prop} {T : TB} {L : List Nm} {par : Int → Int} {D : Int → Prop} {nb ob ab : Nat} {N1 : Int} {t1 : List UInt8} {N2 : Int} {t2 : List UInt8} {W' : World} {T' : TB} {L' : List Nm} {par' : Int → Int} {D' : Int → Prop} (H : Gn w W f q Y Z T L par D nb ob ab N1 t1 N2 t2) (h1 : GAt W' q Z T' L' par' D' nb) (h2 : GrownS W W' Z) : Gn w W' f q Y Z T' L' par' D' nb ob ab N1 t1 N2 t2 := ⟨h1, H.blk.grownS h2 H.nf, H.nf, fun k hk => H.new k (Nat.le_trans h2.size hk), H.o.grownS h2 H.zo, H.a.grownS h2 H.za, H.zo, H.za, H.zy, H.gr.trans (h2.mono (fun k _ h => H.zy k h))⟩
theorem Rn.toG {w W : World} {f q : Nat} {Y Z : Nat → Prop} {s : NS} {nb n : Nat} {B : World} {ob ab : Nat} {N1 : Int} {t1 : List UInt8} {N2 : Int} {t2 : List UInt8} (H : Rn w W f q Y Z s nb n B ob ab N1 t1 N2 t2) : Gn w W f q Y Z s.T s.L s.par (fun d => kdI s.T d = 2) nb ob ab N1 t1 N2 t2 := ⟨H.fx.nd.at'.toG H.fx.nd.ok, H.fx.blk, H.fx.no, H.fx.new, H.o, H.a, H.zo, H.za, H.zy, H.gr⟩
theorem Rn.turn {w W : World} {f q : Nat} {Y Z : Nat → Prop} {s : NS} {nb n : Nat} {B : World} {ob ab : Nat} {N1 : Int} {t1 : List UInt8} {N2 : Int} {t2 : List UInt8} {W' : World} {s' : NS} {n' : Nat} (H : Rn w W f q Y Z s nb n B ob ab N1 t1 N2 t2) (h1 : NdAt W' q Z s' nb) (h2 : GrownS W W' Z) (h3 : NOk s' n') : Rn w W' f q Y Z s' nb n' B ob ab N1 t1 N2 t2 := ⟨H.fx.turn h1 h2 h3, H.o.grownS h2 H.zo, H.a.grownS h2 H.za, H.zo, H.za, H.zy, H.gr.trans (h2.mono (fun k _ h => H.zy k h))⟩
/-- All that is new may turn again. -/
theorem FX.widen {w W : World} {f q nb n n' : Nat} {B : World} {Y Z : Nat → Prop} {s s' : NS} (H : FX w f q Y s nb n B) (h : NdAt W q Z s' nb) (hz : ∀ k, Z k → Y k) (hg : GrownS w W Y) (hk : NOk s' n') : FX W f q Y s' nb n' B := H.turn (h.mono (fun k _ hk => hz k hk)) hg hk
theorem gisDir_any {w : World} {q nb : Nat} {Y : Nat → Prop} {T : TB} {L : List Nm} {par : Int → Int} {D : Int → Prop} (H : GAt w q Y T L par D nb) (i : Int) (hb : -9223372036854775808 ≤ i ∧ i ≤ 9223372036854775807) : Calls Tryz.prog 57 #[.pointer (some ⟨q, 0, none⟩), .int .i64 i] w fun e w' => e = .returned (.bool (decide (kdI T i = 2))) ∧ w' = w := by
  obtain ⟨t, dm, M, X, HL, _⟩ := H
  obtain ⟨TLL, hTL, _⟩ := HL.tab
  have HK := hide (tkind_any hTL i hb)
  change Hid (Calls _ _ _ _ fun e w' => e = .returned (.int .i64 (kdI T i : Int)) ∧ _) at HK
  have c0 : w.cell? ⟨q, 0, none⟩ = some (.pointer (some ⟨t, 0, none⟩)) := HL.nds.cell 0 rfl
  have hd : (((kdI T i : Nat) : Int) == 2) = decide (kdI T i = 2) := by
    by_cases h : kdI T i = 2
    · rw [h]; rfl
    · rw [decide_eq_false h, beq_eq_false_iff_ne]; omega
  obtain ⟨g, hg⟩ : ∃ g, g = decide (kdI T i = 2) := ⟨_, rfl⟩
  rw [← hg] at hd ⊢
  obtain ⟨k, hk⟩ : ∃ k, k = kdI T i := ⟨_, rfl⟩
  rw [← hk] at HK hd
  clear hk HL hTL hg
  go_enter Tryz.func57, Tryz.ntmps57
  go_wp2_with fail
  refine (unhide HK).mono ?_
  rintro e w1 ⟨rfl, rfl⟩
  go_wp2_with fail
  go_ret
  exact ⟨ret_bool (by rw [← hd]), rfl⟩

end Go.Proofs.YtdmmjidekpgmgaaGreatDoor

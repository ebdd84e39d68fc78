/-
  Directories (stage 13): the chapter's examples.
  Directories (stage 13): a call of the law's: Few, Do.
  THE FRAME OF A LAW: from 'the call returns true and writes nothing that was there' to the row's step, over any program; the world's shape and what the listed variables hold are handed to the walk.
-/
import Derived.Test.YtghidcohgkajaaaGreatDoorM21
import Derived.WalkKit
import Derived.ProofKit
import Derived.OpenShut
import Derived.Below
import Derived.LaidMore
import Derived.Lay
import Derived.SevenTiedAt
import Derived.Stop.Joined
/- Directories (stage 13): the chapter's examples. -/
namespace Go.Proofs.YtghidcohgkajaaaGreatDoor
open Go.RowKit Go.Maps

/-- A node without bytes is made: what is left. -/
theorem made_is {s s' : NS} {nb : Nat} {d kind N E : Int} {p : List UInt8} (h : MadeSp s nb d p kind [] N E s') (h1 : (roomN s d p).2.2 = 0) (h2 : makeE s.T kind = 0) : N = makeN s.T kind ∧ E = 0 ∧ s' = ⟨tieT (makeT s.T kind) (makeN s.T kind), putL s.L ⟨(roomN s d p).1, (roomN s d p).2.1, makeN s.T kind⟩, parU s.par (makeN s.T kind) (roomN s d p).1⟩ := by
  obtain ⟨a1, a2, a3⟩ := make_all h2
  have a4 : ndAt (makeT s.T kind) (makeN s.T kind) = some (nd0 kind.toNat) := by rw [a3, if_pos rfl]
  have hx : ndAt (tieT (makeT s.T kind) (makeN s.T kind)) (makeN s.T kind) = some (tieN (nd0 kind.toNat)) := by
    unfold tieT
    rw [a4]
    dsimp only
    rw [set_nd a4, if_pos rfl]
  have hd : MadeSp s nb d p kind [] (makeN s.T kind) 0 ⟨tieT (makeT s.T kind) (makeN s.T kind), putL s.L ⟨(roomN s d p).1, (roomN s d p).2.1, makeN s.T kind⟩, parU s.par (makeN s.T kind) (roomN s d p).1⟩ := .done 0 0 _ _ h1 h2 rfl (.empty _ hx (Int.le_refl _) rfl) (by decide)
  exact h.uniq hd
def aw0 : NS := rootS 9
def aw1 : NS := ⟨tieT (makeT aw0.T 2) 2, putL aw0.L ⟨1, [97], 2⟩, parU aw0.par 2 1⟩
def aw2 : NS := ⟨tieT (makeT aw1.T 1) 3, putL aw1.L ⟨2, [102], 3⟩, parU aw1.par 3 2⟩
theorem aw_room1 : roomN aw0 1 [97] = (1, [97], 0) := by kernel_rfl
theorem aw_make1 : makeE aw0.T 2 = 0 ∧ makeN aw0.T 2 = 2 := ⟨by kernel_rfl, by kernel_rfl⟩
theorem aw_room2 : roomN aw1 1 [97, 47, 102] = (2, [102], 0) := by kernel_rfl
theorem aw_make2 : makeE aw1.T 1 = 0 ∧ makeN aw1.T 1 = 3 := ⟨by kernel_rfl, by kernel_rfl⟩
theorem aw_walk : walkN aw2 1 [47, 97, 47, 46, 46, 47, 97, 47, 46, 47, 102] true = (3, 0) := by kernel_rfl
theorem aw_pl1 : placeN aw2 1 [97] = (1, [97], 0) := by kernel_rfl
theorem aw_pl2 : placeN aw2 1 [97, 47, 98] = (2, [98], 0) := by kernel_rfl
theorem aw_find1 : findN aw2 1 [97] = 2 := by kernel_rfl
theorem aw_find2 : findN aw2 2 [98] = 0 := by kernel_rfl
theorem aw_nm : namesOf (ndAt aw2.T 2) = 1 := by kernel_rfl
theorem aw_isD : isD aw2 2 = true := by kernel_rfl
theorem aw_ren : renE aw2 (placeN aw2 1 [97]) (placeN aw2 1 [97, 47, 98]) (findN aw2 (placeN aw2 1 [97]).1 (placeN aw2 1 [97]).2.1) (findN aw2 (placeN aw2 1 [97, 47, 98]).1 (placeN aw2 1 [97, 47, 98]).2.1) = 35 := by
  rw [aw_pl1, aw_pl2]
  unfold renE
  rw [if_neg (by decide), if_neg (by decide)]
  show (if findN aw2 1 [97] = 0 ∨ namesOf (ndAt aw2.T 2) = 0 then (23 : Int) else if findN aw2 1 [97] = findN aw2 2 [98] then 0 else if isD aw2 (findN aw2 1 [97]) = true ∧ belP aw2 2 (findN aw2 1 [97]) = true then 35 else _) = 35
  rw [aw_find1, aw_find2, aw_nm, if_neg (by decide), if_neg (by decide), if_pos ⟨aw_isD, bel_iff.2 ⟨0, rfl⟩⟩]
theorem aw_rmdir : rmdirE aw2 1 [97] = 26 := by kernel_rfl
set_option maxRecDepth 20000 in
set_option maxHeartbeats 1000000 in
theorem awake_any (w : World) (E : EnvB w (Bas.of w)) : Calls Tryz.prog 11 #[] w fun e w' => e = .returned (.bool true) ∧ Below w.heap.size w w' := by
  have HN := hide (nnew_any 9 9 w E (by decide) (by decide) (by decide) (by decide))
  clear E
  go_enter Tryz.func11, Tryz.ntmps11
  go_wp2_with fail
  refine (unhide HN).mono ?_
  rintro e w1 ⟨f, q, rfl, HW⟩
  obtain ⟨Y, hfx, hY, hf, hb1⟩ := unhide HW
  have HYB := hide hY
  have HB1 := hide hb1
  have HFX := hide hfx
  have HM1 := hide (mkdir_any hfx (by decide) 1 [97] (by decide) (by decide))
  clear hfx hY hf hb1 HW HN
  go_wp2_with fail
  refine (unhide HM1).mono ?_
  rintro e w2 ⟨E1, rfl, HX1⟩
  obtain ⟨N1, s1, m1, fx1⟩ := unhide HX1
  obtain ⟨_, e1, e2⟩ := made_is m1 (by show (roomN aw0 1 [97]).2.2 = 0; rw [aw_room1]) aw_make1.1
  have e3 : s1 = aw1 := by
    rw [e2]
    show (⟨_, putL aw0.L ⟨(roomN aw0 1 [97]).1, (roomN aw0 1 [97]).2.1, makeN aw0.T 2⟩, parU aw0.par (makeN aw0.T 2) (roomN aw0 1 [97]).1⟩ : NS) = aw1
    rw [aw_room1]
    show (⟨tieT (makeT aw0.T 2) (makeN aw0.T 2), putL aw0.L ⟨1, [97], makeN aw0.T 2⟩, parU aw0.par (makeN aw0.T 2) 1⟩ : NS) = aw1
    rw [aw_make1.2]
    rfl
  subst e1
  subst e3
  have HF2 := hide fx1
  have HM2 := hide (make_any fx1 (by decide) 1 [97, 47, 102] (by decide) (by decide))
  clear m1 e2 fx1 HX1 HM1
  go_wp2_with fail
  refine (unhide HM2).mono ?_
  rintro e w3 ⟨N2, E2, rfl, HX2⟩
  obtain ⟨s2, m2, fx2⟩ := unhide HX2
  obtain ⟨e0, e1, e2⟩ := made_is m2 (by rw [aw_room2]) aw_make2.1
  have e3 : s2 = aw2 := by
    rw [e2, aw_room2, aw_make2.2]
    rfl
  rw [aw_make2.2] at e0
  subst e0
  subst e1
  subst e3
  have HF3 := hide fx2
  have HWK := hide (walk_any fx2 1 [47, 97, 47, 46, 46, 47, 97, 47, 46, 47, 102] true (by decide) (by decide))
  rw [aw_walk] at HWK
  clear m2 e2 fx2 HX2 HM2
  go_wp2_with fail
  refine (unhide HWK).mono ?_
  rintro e w4 ⟨rfl, b4⟩
  have HF4 := hide ((unhide HF3).below b4)
  have HRN := hide (rename_any (unhide HF4) (by decide) 1 [97] [97, 47, 98] (by decide) (by decide) (by decide))
  rw [aw_ren, ren_err (by rw [aw_ren]; decide)] at HRN
  have HB4 := hide b4
  clear b4 HWK
  go_wp2_with fail
  refine (unhide HRN).mono ?_
  rintro e w5 ⟨rfl, HF5⟩
  have HRM := hide (rmdir_any (unhide HF5) (by decide) 1 [97] (by decide) (by decide))
  rw [aw_rmdir] at HRM
  clear HRN
  go_wp2_with fail
  refine (unhide HRM).mono ?_
  rintro e w6 ⟨rfl, HF6⟩
  go_wp2_with fail
  go_ret
  exact ⟨rfl, (unhide HF6).nd.env.bel⟩

end Go.Proofs.YtghidcohgkajaaaGreatDoor

/- Directories (stage 13): a call of the law's: Few, Do. -/
namespace Go.Proofs.YtghidcohgkajaaaGreatDoor
open Go.RowKit Go.Maps

/-- A call of the law's. -/
structure Op13 where
  ask : Int
  dir : Int
  path : List UInt8
  tgt : List UInt8
  n : Int
def I64 (x : Int) : Prop := -9223372036854775808 ≤ x ∧ x ≤ 9223372036854775807
def Op13.ok (o : Op13) : Prop := I64 o.ask ∧ I64 o.dir ∧ I64 o.n
def Op13.val (o : Op13) : Value := .agg #[.int .i64 o.ask, .int .i64 o.dir, .string (BA o.path), .string (BA o.tgt), .int .i64 o.n]
def Op13.few (o : Op13) : Bool := decide (o.path.length ≤ 400) && decide (o.tgt.length ≤ 400)
set_option maxRecDepth 20000 in
set_option maxHeartbeats 1000000 in
theorem few_any (o : Op13) (w : World) : Calls Tryz.prog 12 #[.agg #[.int .i64 o.ask, .int .i64 o.dir, .string (BA o.path), .string (BA o.tgt), .int .i64 o.n]] w fun e w' => e = .returned (.bool o.few) ∧ Below w.heap.size w w' := by
  have hb : Below w.heap.size w (w.alloc (.cells #[.int .i64 o.ask, .int .i64 o.dir, .string (BA o.path), .string (BA o.tgt), .int .i64 o.n] 33)) := (Below.refl _ w).alloc (Nat.le_refl _) _
  have HB := hide hb
  obtain ⟨oa, od, op, ot, on⟩ := o
  have HF : Hid ((⟨oa, od, op, ot, on⟩ : Op13).few = (decide (op.length ≤ 400) && decide (ot.length ≤ 400))) := hide rfl
  obtain ⟨g, hg⟩ : ∃ g, g = (⟨oa, od, op, ot, on⟩ : Op13).few := ⟨_, rfl⟩
  rw [← hg] at HF ⊢
  simp only at HB ⊢
  clear hb hg
  by_cases h1 : op.length ≤ 400
  · by_cases h2 : ot.length ≤ 400
    · have hg : g = true := by rw [unhide HF, decide_eq_true h1, decide_eq_true h2]; rfl
      subst hg
      go_enter Tryz.func12, Tryz.ntmps12
      go_wp2_with fail
      go_ret
      exact ⟨ret_bool (decide_eq_true (by omega)), unhide HB⟩
    · have hg : g = false := by rw [unhide HF, decide_eq_true h1, decide_eq_false h2]; rfl
      subst hg
      go_enter Tryz.func12, Tryz.ntmps12
      go_wp2_with fail
      go_ret
      exact ⟨ret_bool (decide_eq_false (by omega)), unhide HB⟩
  · have hg : g = false := by rw [unhide HF, decide_eq_false h1]; rfl
    subst hg
    go_enter Tryz.func12, Tryz.ntmps12
    go_wp2_with fail
    go_ret
    exact ⟨rfl, unhide HB⟩
/-- What a call answers and leaves, as far as the laws ask. -/
structure DoN (s : NS) (nb : Nat) (o : Op13) (N E : Int) (s' : NS) : Prop where
  make : o.ask = 0 → MadeSp s nb o.dir o.path 1 [] N E s'
  mkdir : o.ask = 1 → ∃ N', MadeSp s nb o.dir o.path 2 [] N' E s'
  unlink : o.ask = 4 → E = unlinkE s o.dir o.path ∧ s' = unlinkS s o.dir o.path
  rmdir : o.ask = 5 → E = rmdirE s o.dir o.path ∧ s' = rmdirS s o.dir o.path
  len : s'.T.length = s.T.length
theorem made_len {s s' : NS} {nb : Nat} {d kind N E : Int} {p tx : List UInt8} (h : MadeSp s nb d p kind tx N E s') : s'.T.length = s.T.length := by
  cases h with
  | bad => rfl
  | nodes => rfl
  | space N E T1 T2 h1 h2 h3 h4 =>
    show (untT T2 _).length = _
    rw [unt_len, wr_len h4, h3, tie_len, make_len]
  | done N _ T1 T2 h1 h2 h3 h4 =>
    show T2.length = _
    rw [wr_len h4, h3, tie_len, make_len]
theorem sym_len {s s' : NS} {nb : Nat} {d E : Int} {t p : List UInt8} (h : SymSp s nb d t p E s') : s'.T.length = s.T.length := by
  rcases h with ⟨_, _, rfl⟩ | ⟨_, _, _, rfl⟩ | ⟨_, _, _, rfl⟩ | ⟨N, h⟩
  · rfl
  · rfl
  · rfl
  · exact made_len h
theorem fw_len {s s' : NS} {nb : Nat} {d a N E : Int} {x : List UInt8} (h : WrtSp s nb d a x N E s') : s'.T.length = s.T.length := by
  rcases h with ⟨_, _, _, rfl⟩ | ⟨_, T', h, rfl⟩
  · rfl
  · exact wr_len h
theorem gone_len (s : NS) (d : Int) (n : List UInt8) : (goneS s d n).T.length = s.T.length := unt_len _ _
theorem unl_len (s : NS) (d : Int) (p : List UInt8) : (unlinkS s d p).T.length = s.T.length := by
  unfold unlinkS
  split
  · exact gone_len _ _ _
  · rfl
theorem rmd_len (s : NS) (d : Int) (p : List UInt8) : (rmdirS s d p).T.length = s.T.length := by
  unfold rmdirS
  split
  · exact gone_len _ _ _
  · rfl
theorem ren_len (s : NS) (A B : Int × List UInt8 × Int) (i k : Int) : (renS s A B i k).T.length = s.T.length := by
  unfold renS
  split
  · split
    · exact gone_len _ _ _
    · rfl
  · rfl
/-- What the laws ask of Link. -/
def LkAt (f q : Nat) (Y : Nat → Prop) (nb : Nat) (B : Bas) : Prop := ∀ (W : World) (s : NS) (n : Nat) (d : Int) (p p2 : List UInt8), FX W f q Y s nb n B → n ≤ 10000 → -9223372036854775808 ≤ d ∧ d ≤ 9223372036854775807 → p.length ≤ 100000 → p2.length ≤ 100000 → Calls Tryz.prog 42 #[.pointer (some ⟨f, 0, none⟩), .int .i64 d, .string (BA p), .string (BA p2)] W fun e w' => ∃ E, e = .returned (.int .i64 E) ∧ Hid (∃ s', FX w' f q Y s' nb (n + 1) B ∧ s'.T.length = s.T.length)
theorem DoN.no {s : NS} {nb : Nat} {o : Op13} {N E : Int} {s' : NS} (h0 : o.ask ≠ 0) (h1 : o.ask ≠ 1) (h4 : o.ask ≠ 4) (h5 : o.ask ≠ 5) (hl : s'.T.length = s.T.length) : DoN s nb o N E s' := ⟨fun h => absurd h h0, fun h => absurd h h1, fun h => absurd h h4, fun h => absurd h h5, hl⟩
set_option maxRecDepth 20000 in
set_option maxHeartbeats 4000000 in
theorem do_any {w : World} {f q nb n : Nat} {B : Bas} {Y : Nat → Prop} {s : NS} (LK : LkAt f q Y nb B) (H : FX w f q Y s nb n B) (hnn : n ≤ 9000) (o : Op13) (ok : o.ok) (hf : o.few = true) : Calls Tryz.prog 18 #[.pointer (some ⟨f, 0, none⟩), .agg #[.int .i64 o.ask, .int .i64 o.dir, .string (BA o.path), .string (BA o.tgt), .int .i64 o.n]] w fun e w' => ∃ N E, e = .returned (.tuple #[.int .i64 N, .int .i64 E]) ∧ Hid (∃ s', DoN s nb o N E s' ∧ FX w' f q Y s' nb (n + 1) B) := by
  obtain ⟨k0, k1, k2⟩ := ok
  unfold Op13.few at hf
  rw [Bool.and_eq_true, decide_eq_true_eq, decide_eq_true_eq] at hf
  have hb : Below w.heap.size w (w.alloc (.cells #[.int .i64 o.ask, .int .i64 o.dir, .string (BA o.path), .string (BA o.tgt), .int .i64 o.n] 33)) := (Below.refl _ w).alloc (Nat.le_refl _) _
  have hn1 : n ≤ 10000 := by omega
  have hn2 : n ≤ 10000 := by omega
  have HX := hide (H.below hb)
  have hp1 : o.path.length ≤ 100000 := by omega
  have hp2 : o.tgt.length ≤ 100000 := by omega
  have hnew := Blk.new w 33 #[.int .i64 o.ask, .int .i64 o.dir, .string (BA o.path), .string (BA o.tgt), .int .i64 o.n]
  obtain ⟨W, hW⟩ : ∃ W, W = w.alloc (.cells #[.int .i64 o.ask, .int .i64 o.dir, .string (BA o.path), .string (BA o.tgt), .int .i64 o.n] 33) := ⟨_, rfl⟩
  rw [← hW] at HX hnew
  obtain ⟨b, hbb⟩ : ∃ b, b = w.heap.size := ⟨_, rfl⟩
  rw [← hbb] at hnew
  have c0 : W.cell? ⟨b, 0, none⟩ = some (.int .i64 o.ask) := hnew.cell 0 rfl
  have c1 : W.cell? ⟨b, 1, none⟩ = some (.int .i64 o.dir) := hnew.cell 1 rfl
  have c2 : W.cell? ⟨b, 2, none⟩ = some (.string (BA o.path)) := hnew.cell 2 rfl
  have c3 : W.cell? ⟨b, 3, none⟩ = some (.string (BA o.tgt)) := hnew.cell 3 rfl
  have c4 : W.cell? ⟨b, 4, none⟩ = some (.int .i64 o.n) := hnew.cell 4 rfl
  have HW := hide hW
  have HBB := hide hbb
  have HLK := hide LK
  clear H hb hf hnew hW hbb LK
  by_cases h0 : o.ask = 0
  · have HC := hide (make_any (unhide HX) hn1 o.dir o.path k1 hp1)
    have HA := hide h0
    have hq : (o.ask == 0) = true := by simpa using h0
    obtain ⟨oa, od, op, ot, on⟩ := o
    simp only at *
    clear h0
    go_enter Tryz.func18, Tryz.ntmps18
    go_upto_region 1 with fail
    rw [← unhide HW, ← unhide HBB]
    go_wp2_with fail
    refine (unhide HC).mono ?_
    rintro e w1 ⟨N, E, rfl, HM⟩
    go_wp2_with fail
    go_ret2
    obtain ⟨s', m1, m2⟩ := unhide HM
    exact ⟨_, _, rfl, hide ⟨s', ⟨fun _ => m1, fun h => absurd ((unhide HA).symm.trans h) (by decide), fun h => absurd ((unhide HA).symm.trans h) (by decide), fun h => absurd ((unhide HA).symm.trans h) (by decide), made_len m1⟩, m2⟩⟩
  · skip
    by_cases h1 : o.ask = 1
    · have HC := hide (mkdir_any (unhide HX) hn1 o.dir o.path k1 hp1)
      have HA := hide h1
      have hq : (o.ask == 1) = true := by simpa using h1
      have g0 : (o.ask == 0) = false := by simpa using h0
      clear h0
      obtain ⟨oa, od, op, ot, on⟩ := o
      simp only at *
      clear h1
      go_enter Tryz.func18, Tryz.ntmps18
      go_upto_region 1 with fail
      rw [← unhide HW, ← unhide HBB]
      go_wp2_with fail
      refine (unhide HC).mono ?_
      rintro e w1 ⟨E, rfl, HM⟩
      go_wp2_with fail
      go_ret2
      obtain ⟨N', s', m1, m2⟩ := unhide HM
      exact ⟨_, _, rfl, hide ⟨s', ⟨fun h => absurd ((unhide HA).symm.trans h) (by decide), fun _ => ⟨N', m1⟩, fun h => absurd ((unhide HA).symm.trans h) (by decide), fun h => absurd ((unhide HA).symm.trans h) (by decide), made_len m1⟩, m2⟩⟩
    · skip
      by_cases h2 : o.ask = 2
      · have HC := hide (symlink_any (unhide HX) hn1 o.dir o.tgt o.path k1 hp1 hp2)
        have HA := hide h2
        have hq : (o.ask == 2) = true := by simpa using h2
        have g0 : (o.ask == 0) = false := by simpa using h0
        have g1 : (o.ask == 1) = false := by simpa using h1
        clear h0 h1
        obtain ⟨oa, od, op, ot, on⟩ := o
        simp only at *
        clear h2
        go_enter Tryz.func18, Tryz.ntmps18
        go_upto_region 1 with fail
        rw [← unhide HW, ← unhide HBB]
        go_wp2_with fail
        refine (unhide HC).mono ?_
        rintro e w1 ⟨E, rfl, HM⟩
        go_wp2_with fail
        go_ret2
        obtain ⟨s', m1, m2⟩ := unhide HM
        exact ⟨_, _, rfl, hide ⟨s', DoN.no (fun h => absurd ((unhide HA).symm.trans h) (by decide)) (fun h => absurd ((unhide HA).symm.trans h) (by decide)) (fun h => absurd ((unhide HA).symm.trans h) (by decide)) (fun h => absurd ((unhide HA).symm.trans h) (by decide)) (sym_len m1), m2⟩⟩
      · skip
        by_cases h3 : o.ask = 3
        · have HC := hide (unhide HLK W s n o.dir o.path o.tgt (unhide HX) hn2 k1 hp1 hp2)
          have HA := hide h3
          have hq : (o.ask == 3) = true := by simpa using h3
          have g0 : (o.ask == 0) = false := by simpa using h0
          have g1 : (o.ask == 1) = false := by simpa using h1
          have g2 : (o.ask == 2) = false := by simpa using h2
          clear h0 h1 h2
          obtain ⟨oa, od, op, ot, on⟩ := o
          simp only at *
          clear h3
          go_enter Tryz.func18, Tryz.ntmps18
          go_upto_region 1 with fail
          rw [← unhide HW, ← unhide HBB]
          go_wp2_with fail
          refine (unhide HC).mono ?_
          rintro e w1 ⟨E, rfl, HM⟩
          go_wp2_with fail
          go_ret2
          obtain ⟨s', m2⟩ := unhide HM
          exact ⟨_, _, rfl, hide ⟨s', DoN.no (fun h => absurd ((unhide HA).symm.trans h) (by decide)) (fun h => absurd ((unhide HA).symm.trans h) (by decide)) (fun h => absurd ((unhide HA).symm.trans h) (by decide)) (fun h => absurd ((unhide HA).symm.trans h) (by decide)) m2.2, m2.1⟩⟩
        · skip
          by_cases h4 : o.ask = 4
          · have HC := hide (unlink_any (unhide HX) hn1 o.dir o.path k1 hp1)
            have HA := hide h4
            have hq : (o.ask == 4) = true := by simpa using h4
            have g0 : (o.ask == 0) = false := by simpa using h0
            have g1 : (o.ask == 1) = false := by simpa using h1
            have g2 : (o.ask == 2) = false := by simpa using h2
            have g3 : (o.ask == 3) = false := by simpa using h3
            clear h0 h1 h2 h3
            obtain ⟨oa, od, op, ot, on⟩ := o
            simp only at *
            clear h4
            go_enter Tryz.func18, Tryz.ntmps18
            go_upto_region 1 with fail
            rw [← unhide HW, ← unhide HBB]
            go_wp2_with fail
            refine (unhide HC).mono ?_
            rintro e w1 ⟨rfl, HM⟩
            go_wp2_with fail
            go_ret2
            exact ⟨_, _, rfl, hide ⟨_, ⟨fun h => absurd ((unhide HA).symm.trans h) (by decide), fun h => absurd ((unhide HA).symm.trans h) (by decide), fun _ => ⟨rfl, rfl⟩, fun h => absurd ((unhide HA).symm.trans h) (by decide), unl_len _ _ _⟩, unhide HM⟩⟩
          · skip
            by_cases h5 : o.ask = 5
            · have HC := hide (rmdir_any (unhide HX) hn1 o.dir o.path k1 hp1)
              have HA := hide h5
              have hq : (o.ask == 5) = true := by simpa using h5
              have g0 : (o.ask == 0) = false := by simpa using h0
              have g1 : (o.ask == 1) = false := by simpa using h1
              have g2 : (o.ask == 2) = false := by simpa using h2
              have g3 : (o.ask == 3) = false := by simpa using h3
              have g4 : (o.ask == 4) = false := by simpa using h4
              clear h0 h1 h2 h3 h4
              obtain ⟨oa, od, op, ot, on⟩ := o
              simp only at *
              clear h5
              go_enter Tryz.func18, Tryz.ntmps18
              go_upto_region 1 with fail
              rw [← unhide HW, ← unhide HBB]
              go_wp2_with fail
              refine (unhide HC).mono ?_
              rintro e w1 ⟨rfl, HM⟩
              go_wp2_with fail
              go_ret2
              exact ⟨_, _, rfl, hide ⟨_, ⟨fun h => absurd ((unhide HA).symm.trans h) (by decide), fun h => absurd ((unhide HA).symm.trans h) (by decide), fun h => absurd ((unhide HA).symm.trans h) (by decide), fun _ => ⟨rfl, rfl⟩, rmd_len _ _ _⟩, unhide HM⟩⟩
            · skip
              by_cases h6 : o.ask = 6
              · have HC := hide (rename_any (unhide HX) hn1 o.dir o.path o.tgt k1 hp1 hp2)
                have HA := hide h6
                have hq : (o.ask == 6) = true := by simpa using h6
                have g0 : (o.ask == 0) = false := by simpa using h0
                have g1 : (o.ask == 1) = false := by simpa using h1
                have g2 : (o.ask == 2) = false := by simpa using h2
                have g3 : (o.ask == 3) = false := by simpa using h3
                have g4 : (o.ask == 4) = false := by simpa using h4
                have g5 : (o.ask == 5) = false := by simpa using h5
                clear h0 h1 h2 h3 h4 h5
                obtain ⟨oa, od, op, ot, on⟩ := o
                simp only at *
                clear h6
                go_enter Tryz.func18, Tryz.ntmps18
                go_upto_region 1 with fail
                rw [← unhide HW, ← unhide HBB]
                go_wp2_with fail
                refine (unhide HC).mono ?_
                rintro e w1 ⟨rfl, HM⟩
                go_wp2_with fail
                go_ret2
                exact ⟨_, _, rfl, hide ⟨_, DoN.no (fun h => absurd ((unhide HA).symm.trans h) (by decide)) (fun h => absurd ((unhide HA).symm.trans h) (by decide)) (fun h => absurd ((unhide HA).symm.trans h) (by decide)) (fun h => absurd ((unhide HA).symm.trans h) (by decide)) (ren_len _ _ _ _ _), unhide HM⟩⟩
              · skip
                by_cases h7 : o.ask = 7
                · have HC := hide (fwrite_any (unhide HX) o.n 0 o.tgt k2 (by decide) hp2)
                  have HA := hide h7
                  have hq : (o.ask == 7) = true := by simpa using h7
                  have g0 : (o.ask == 0) = false := by simpa using h0
                  have g1 : (o.ask == 1) = false := by simpa using h1
                  have g2 : (o.ask == 2) = false := by simpa using h2
                  have g3 : (o.ask == 3) = false := by simpa using h3
                  have g4 : (o.ask == 4) = false := by simpa using h4
                  have g5 : (o.ask == 5) = false := by simpa using h5
                  have g6 : (o.ask == 6) = false := by simpa using h6
                  clear h0 h1 h2 h3 h4 h5 h6
                  obtain ⟨oa, od, op, ot, on⟩ := o
                  simp only at *
                  clear h7
                  go_enter Tryz.func18, Tryz.ntmps18
                  go_upto_region 1 with fail
                  rw [← unhide HW, ← unhide HBB]
                  go_wp2_with fail
                  refine (unhide HC).mono ?_
                  rintro e w1 ⟨N, E, rfl, HM⟩
                  go_wp2_with fail
                  go_ret2
                  obtain ⟨s', m1, m2⟩ := unhide HM
                  exact ⟨_, _, rfl, hide ⟨s', DoN.no (fun h => absurd ((unhide HA).symm.trans h) (by decide)) (fun h => absurd ((unhide HA).symm.trans h) (by decide)) (fun h => absurd ((unhide HA).symm.trans h) (by decide)) (fun h => absurd ((unhide HA).symm.trans h) (by decide)) (fw_len m1), m2⟩⟩
                · skip
                  by_cases h8 : o.ask = 8
                  · have HC := hide (nhold_any (unhide HX) hn1 o.n k2)
                    have HA := hide h8
                    have hq : (o.ask == 8) = true := by simpa using h8
                    have g0 : (o.ask == 0) = false := by simpa using h0
                    have g1 : (o.ask == 1) = false := by simpa using h1
                    have g2 : (o.ask == 2) = false := by simpa using h2
                    have g3 : (o.ask == 3) = false := by simpa using h3
                    have g4 : (o.ask == 4) = false := by simpa using h4
                    have g5 : (o.ask == 5) = false := by simpa using h5
                    have g6 : (o.ask == 6) = false := by simpa using h6
                    have g7 : (o.ask == 7) = false := by simpa using h7
                    clear h0 h1 h2 h3 h4 h5 h6 h7
                    obtain ⟨oa, od, op, ot, on⟩ := o
                    simp only at *
                    clear h8
                    go_enter Tryz.func18, Tryz.ntmps18
                    go_upto_region 1 with fail
                    rw [← unhide HW, ← unhide HBB]
                    go_wp2_with fail
                    refine (unhide HC).mono ?_
                    rintro e w1 ⟨rfl, HM⟩
                    go_wp2_with fail
                    go_ret2
                    exact ⟨_, _, rfl, hide ⟨_, DoN.no (fun h => absurd ((unhide HA).symm.trans h) (by decide)) (fun h => absurd ((unhide HA).symm.trans h) (by decide)) (fun h => absurd ((unhide HA).symm.trans h) (by decide)) (fun h => absurd ((unhide HA).symm.trans h) (by decide)) (hold_len _ _), unhide HM⟩⟩
                  · skip
                    have HC := hide (nloose_any (unhide HX) hn1 o.n k2)
                    have g0 : (o.ask == 0) = false := by simpa using h0
                    have g1 : (o.ask == 1) = false := by simpa using h1
                    have g2 : (o.ask == 2) = false := by simpa using h2
                    have g3 : (o.ask == 3) = false := by simpa using h3
                    have g4 : (o.ask == 4) = false := by simpa using h4
                    have g5 : (o.ask == 5) = false := by simpa using h5
                    have g6 : (o.ask == 6) = false := by simpa using h6
                    have g7 : (o.ask == 7) = false := by simpa using h7
                    have g8 : (o.ask == 8) = false := by simpa using h8
                    obtain ⟨HN0, HN1, HN4, HN5⟩ : Hid (o.ask ≠ 0) ∧ Hid (o.ask ≠ 1) ∧ Hid (o.ask ≠ 4) ∧ Hid (o.ask ≠ 5) := ⟨hide h0, hide h1, hide h4, hide h5⟩
                    clear h0 h1 h2 h3 h4 h5 h6 h7 h8
                    obtain ⟨oa, od, op, ot, on⟩ := o
                    simp only at *
                    go_enter Tryz.func18, Tryz.ntmps18
                    go_upto_region 1 with fail
                    rw [← unhide HW, ← unhide HBB]
                    go_wp2_with fail
                    refine (unhide HC).mono ?_
                    rintro e w1 ⟨rfl, HM⟩
                    go_wp2_with fail
                    go_ret2
                    exact ⟨_, _, rfl, hide ⟨_, DoN.no (unhide HN0) (unhide HN1) (unhide HN4) (unhide HN5) (loo_len _ _), unhide HM⟩⟩

end Go.Proofs.YtghidcohgkajaaaGreatDoor

/- THE FRAME OF A LAW: from 'the call returns true and writes nothing that was there' to the row's step, over any program; the world's shape and what the listed variables hold are handed to the walk. -/
namespace Go.Proofs.YtghidcohgkajaaaGreatDoor
open Go.ChangeShapes Go.WideShapes Go.ChangeAt Go.RowKit
variable {H : Type} {enc : TypeId × Value → H}

/-- All arguments read behind the call as they read before. -/
theorem trodAll_below {P : Program} (hl : laidOutB P = true) {W W' : World} (hb : Below W.heap.size W W') :
    ∀ (ts : List TypeId) (vs : List Value) (ds : List (DataW H)) (ps : List MemPlace), (∀ t ∈ ts, P.readableRec t = true ∧ t < P.types.size) →
      DataW.TrodAll enc P W 0 (fun _ => true) true ts vs ds ps → DataW.TrodAll enc P W' 0 (fun b => decide (b < W.heap.size)) true ts vs ds ps
  | [], vs, ds, ps, _, h => by
    obtain ⟨rfl, rfl, rfl⟩ := trodAll_nil h
    exact trodAll_mk0
  | t :: ts, vs, ds, ps, ht, h => by
    obtain ⟨v, vs', d, ds', p, q, rfl, rfl, rfl, h0, r0⟩ := trodAll_cons h
    have k := ht t (by simp)
    have lt0 : ∀ x ∈ p, x.block < W.heap.size := by obtain ⟨m, hm⟩ := h0; exact DataW.trod_lt m _ _ _ hm
    exact trodAll_cons_mk (Below.trod hl k.1 k.2 h0 hb lt0) (trodAll_below hl hb ts vs' ds' q (fun u hu => ht u (by simp [hu])) r0)

theorem law_lifted {C : Checked} {os : Os} {f : FuncId} {fn : Func} {s : ChangeSpec} {L : List (String × DataW Unit)} {tb : TypeId}
    (own : ownKnob C.prog.godebug = none) (started : os.Started) (noInit : C.prog.inits.idxOf? f = none) (hfn : C.prog.funcs[f]? = some fn)
    (hl : laidOutB C.prog = true) (hvars : s.vars = []) (hread : ∀ t ∈ fn.params.toList, C.prog.readableRec t = true ∧ t < C.prog.types.size)
    (hres : fn.resultTypes = #[tb]) (hbool : C.prog.underlying tb = some .bool)
    (hspec : ∀ ds : List (DataW H), ds.length = fn.params.toList.length → s.fn H ds = { results := [.lit (.bool true)], args := ds })
    (witness : ∃ (w : World) (tape : Tape) (i : Input), w.os = os ∧ (w.forCall tape i).Shaped C.prog ∧ i.vars = [] ∧ Input.okWide C.prog (w.forCall tape i) .any w.heap.size f i ∧
      ((s.pre enc C.prog fn [] false (w.forCall tape i).memory i.args ∧ laidMetH C.prog L (w.forCall tape i).memory) ∧ sizedMet enc C.prog fn (OpenSpec.ofChange s) false (w.forCall tape i).memory i.args) ∧ Assume.holds {} C.prog (lone (Frame.enter C.prog f i.args .normal) [] (w.forCall tape i)))
    (contract : ∀ (W : World) (base : Nat) (args : Array Value) (ds : List (DataW H)) (ps : List MemPlace),
      (∀ (j : Nat) t v, fn.params[j]? = some t → args[j]? = some v → Value.okWide C.prog W .any base t v) →
      DataW.TrodAll enc C.prog W 0 (fun _ => true) true fn.params.toList args.toList ds ps →
      laidMetH C.prog L W → W.ShapedOpen C.prog →
      Calls C.prog f args W fun e W' => e = .returned (.bool true) ∧ Below W.heap.size W W') :
    ReturnsInHanded {} C os f .any (fun w args => (s.pre enc C.prog fn [] false w args ∧ laidMetH C.prog L w) ∧ sizedMet enc C.prog fn (OpenSpec.ofChange s) false w args) (s.post enc C.prog fn false true false false) := by
  refine returnsInHanded_of_calls own started noInit witness ?_
  intro w tape i _ hsh _ hok hpre _
  obtain ⟨_, _, _, fn', hfn', _, _, _, _, hval⟩ := hok
  obtain rfl : fn' = fn := Option.some.inj (hfn'.symm.trans hfn)
  obtain ⟨⟨⟨ds, gs, before, hw, _⟩, hx⟩, _⟩ := hpre
  have hw' := DataW.Whole.of_heap (w' := w.forCall tape i) (by rfl) hw
  have hW := hw'
  obtain ⟨p, q, hA, hV, _, _, _⟩ := hw'
  rw [hvars] at hV
  obtain ⟨rfl, rfl⟩ := trodVars_none hV
  have hlen : ∀ (ts : List TypeId) (vs : List Value) (ds : List (DataW H)) (ps : List MemPlace), DataW.TrodAll enc C.prog (w.forCall tape i) 0 (fun _ => true) true ts vs ds ps → ds.length = ts.length := by
    intro ts
    induction ts with
    | nil => intro vs ds ps h; obtain ⟨_, rfl, _⟩ := trodAll_nil h; rfl
    | cons t ts ih =>
      intro vs ds ps h
      obtain ⟨v, vs', d, ds', p, q, _, rfl, _, _, r0⟩ := trodAll_cons h
      simp [ih _ _ _ r0]
  refine (contract (w.forCall tape i) w.heap.size i.args ds p hval hA (hx.of_heap (by rfl)) hsh).mono fun e W' ⟨he, bel⟩ => ?_
  subst he
  have hs := hspec (ds ++ []) (by rw [List.append_nil]; exact hlen _ _ _ _ hA)
  refine ChangeSpec.post_blind (v := .bool true) ⟨ds, [], before, [], p, [], hW, ?_, ?_, ?_, bel.frame _, fun h => by cases h⟩
  · rw [hs, hres]
    exact trodAll_mk1 (shut_bool hbool _)
  · rw [hs]
    simp only [List.append_nil]
    exact trodAll_below hl bel _ _ _ _ hread hA
  · rw [hs, hvars]
    rfl

end Go.Proofs.YtghidcohgkajaaaGreatDoor

/-
  Directories (stage 13): within, refuseOver.
  Directories (stage 13): the tree's own calls: Walk, Make, Mkdir, Symlink, Hold, Loose, Write.
  Directories (stage 13): find.
-/
import Derived.Test.YtnpeiibecihleaaGreatDoorM16
/- Directories (stage 13): within, refuseOver. -/
namespace Go.Proofs.YtnpeiibecihleaaGreatDoor
open Go.RowKit Go.Maps

/-- How far up one has come. -/
structure Ups (s : NS) (b i : Int) (j : Int) : Prop where
  m : ∃ m, iterP s.par m b = j ∧ ∀ l, l < m → iterP s.par l b ≠ i
  kd : kdI s.T j = 2
  nm : 1 ≤ nmI s.T j
set_option maxRecDepth 20000 in
set_option maxHeartbeats 4000000 in
theorem nwithin_any {w : World} {q nb n : Nat} {B : Bas} {Y : Nat → Prop} {s : NS} (H : NdX w q Y s nb n B) (b i : Int) (hb : kdI s.T b = 2) (hbn : 1 ≤ nmI s.T b) : Calls Tryz.prog 93 #[.pointer (some ⟨q, 0, none⟩), .int .i64 b, .int .i64 i] w fun e w' => e = .returned (.bool (belP s b i)) ∧ w' = w := by
  obtain ⟨t, dm, M, X, HL, _⟩ := H.at'
  have c1 : w.cell? ⟨q, 1, none⟩ = some (.map (some dm)) := HL.nds.cell 1 rfl
  obtain ⟨rk, hrk⟩ := H.ok.inv.up
  have HRK := hide hrk
  have HLK : Hid (∀ j, kdI s.T j = 2 → ∃ mm, (Instr.lookup 95 (.map (some dm)) (.int .i64 j) false).run Tryz.prog w = .ok (.agg #[.int .i64 (s.par j), .map mm]) w ∧ ∀ W : World, (Instr.field 149 (.agg #[.int .i64 (s.par j), .map mm]) 0).run Tryz.prog W = .ok (.int .i64 (s.par j)) W) := hide (fun j hj => by
    have hr := H.ok.rng hj
    have h := HL.look (d := j) (by omega)
    rw [show parOf s j = s.par j from if_pos hj] at h
    exact ⟨_, h, fld_par _ _⟩)
  have HS0 : Hid (Ups s b i b) := hide ⟨⟨0, rfl, fun l hl => absurd hl (Nat.not_lt_zero _)⟩, hb, hbn⟩
  have HEND : Hid (∀ j, Ups s b i j → (j = i ∨ j = 1) → belP s b i = decide (j = i)) := hide (fun j hj he => by
    obtain ⟨m, h1, h2⟩ := hj.m
    exact bel_end H.ok.inv h1 h2 he)
  have HNX : Hid (∀ j, Ups s b i j → j ≠ i → j ≠ 1 → Ups s b i (s.par j)) := hide (fun j hj h1 h2 => by
    obtain ⟨m, e1, e2⟩ := hj.m
    have h3 := unhide HRK j hj.kd hj.nm h2
    refine ⟨⟨m + 1, ?_, fun l hl => ?_⟩, h3.2.1, h3.2.2⟩
    · rw [iter_add, e1]; rfl
    · rcases Nat.lt_or_ge l m with h | h
      · exact e2 l h
      · have : l = m := by omega
        rw [this, e1]
        exact h1)
  obtain ⟨g, hg⟩ : ∃ g, g = belP s b i := ⟨_, rfl⟩
  rw [← hg] at HEND ⊢
  clear hrk HL hg hb hbn H
  go_enter Tryz.func93, Tryz.ntmps93
  go_wp2_with fail
  go_loopw [1] (fun v wr => ∃ j : Int, v = .int .i64 j ∧ wr = w ∧ Hid (Ups s b i j)) (fun v _ => rk (intOf v))
  case atStart => exact ⟨b, rfl, rfl, HS0⟩
  case round =>
    clear HS0
    obtain ⟨j, rfl, rfl, HU⟩ := hrel
    by_cases h1 : j = i
    · have hE := unhide HEND j (unhide HU) (.inl h1)
      rw [decide_eq_true h1] at hE
      have h2 : (j != i) = false := by simpa using h1
      have h3 : (j == i) = true := by simpa using h1
      have HE := hide hE
      clear hE h1
      go_wp2_with fail
      go_ret
      exact ⟨ret_bool (by rw [unhide HE]), rfl⟩
    · by_cases h4 : j = 1
      · have hE := unhide HEND j (unhide HU) (.inr h4)
        rw [decide_eq_false h1] at hE
        have h2 : (j != i) = true := by simpa using h1
        have h3 : (j == i) = false := by simpa using h1
        have h5 : (j != 1) = false := by simpa using h4
        have HE := hide hE
        clear hE h1 h4
        go_wp2_with fail
        go_ret
        exact ⟨ret_bool (by rw [unhide HE]), rfl⟩
      · have HU2 := hide (unhide HNX j (unhide HU) h1 h4)
        have HM := hide (unhide HRK j (unhide HU).kd (unhide HU).nm h4).1
        obtain ⟨mm, hl, hf⟩ := unhide HLK j (unhide HU).kd
        have h2 : (j != i) = true := by simpa using h1
        have h5 : (j != 1) = true := by simpa using h4
        obtain ⟨pj, hpj⟩ : ∃ pj, pj = s.par j := ⟨_, rfl⟩
        rw [← hpj] at hl hf HU2 HM
        clear hpj h1 h4
        go_wp2_with fail
        go_roundw
        case rel => exact ⟨pj, rfl, by first | trivial | rfl, HU2⟩
        case measure => exact unhide HM
def overE (s : NS) (i k : Int) : Int := if isD s i = true ∧ isD s k = false then 25 else if isD s i = false ∧ isD s k = true then 24 else if isD s i = true ∧ (!(inN s k).isEmpty) = true then 26 else 0
set_option maxRecDepth 20000 in
set_option maxHeartbeats 4000000 in
theorem refuseOver_any {w : World} {q nb n : Nat} {B : Bas} {Y : Nat → Prop} {s : NS} (H : NdX w q Y s nb n B) (i k : Int) (hi : -9223372036854775808 ≤ i ∧ i ≤ 9223372036854775807) (hk : -9223372036854775808 ≤ k ∧ k ≤ 9223372036854775807) : Calls Tryz.prog 94 #[.pointer (some ⟨q, 0, none⟩), .int .i64 i, .int .i64 k] w fun e w' => e = .returned (.int .i64 (overE s i k)) ∧ w' = w := by
  have HI := hide (isDir_any H i hi)
  have HK := hide (isDir_any H k hk)
  have HN := hide (hasNames_any H k hk)
  obtain ⟨R, hR⟩ : ∃ R, R = overE s i k := ⟨_, rfl⟩
  have HR := hide hR
  rw [← hR]
  unfold overE at HR
  obtain ⟨g, hg⟩ : ∃ g, g = !(inN s k).isEmpty := ⟨_, rfl⟩
  rw [← hg] at HN HR
  generalize isD s i = a at HI HR
  generalize isD s k = c at HK HR
  clear hR H hg
  cases a with
  | true =>
    cases c with
    | true =>
      cases g with
      | true =>
        have hR := unhide HR
        simp at hR
        subst hR
        clear HR
        go_enter Tryz.func94, Tryz.ntmps94
        go_wp2_with fail
        refine (unhide HI).mono ?_
        rintro e w1 ⟨rfl, hw1⟩
        subst hw1
        go_wp2_with fail
        refine (unhide HK).mono ?_
        rintro e w1 ⟨rfl, hw1⟩
        subst hw1
        go_wp2_with fail
        refine (unhide HI).mono ?_
        rintro e w1 ⟨rfl, hw1⟩
        subst hw1
        go_wp2_with fail
        refine (unhide HI).mono ?_
        rintro e w1 ⟨rfl, hw1⟩
        subst hw1
        go_wp2_with fail
        refine (unhide HN).mono ?_
        rintro e w1 ⟨rfl, hw1⟩
        subst hw1
        go_wp2_with fail
        go_ret
        exact ⟨rfl, rfl⟩
      | false =>
        have hR := unhide HR
        simp at hR
        subst hR
        clear HR
        go_enter Tryz.func94, Tryz.ntmps94
        go_wp2_with fail
        refine (unhide HI).mono ?_
        rintro e w1 ⟨rfl, hw1⟩
        subst hw1
        go_wp2_with fail
        refine (unhide HK).mono ?_
        rintro e w1 ⟨rfl, hw1⟩
        subst hw1
        go_wp2_with fail
        refine (unhide HI).mono ?_
        rintro e w1 ⟨rfl, hw1⟩
        subst hw1
        go_wp2_with fail
        refine (unhide HI).mono ?_
        rintro e w1 ⟨rfl, hw1⟩
        subst hw1
        go_wp2_with fail
        refine (unhide HN).mono ?_
        rintro e w1 ⟨rfl, hw1⟩
        subst hw1
        go_wp2_with fail
        go_ret
        exact ⟨rfl, rfl⟩
    | false =>
      have hR := unhide HR
      simp at hR
      subst hR
      clear HR
      go_enter Tryz.func94, Tryz.ntmps94
      go_wp2_with fail
      refine (unhide HI).mono ?_
      rintro e w1 ⟨rfl, hw1⟩
      subst hw1
      go_wp2_with fail
      refine (unhide HK).mono ?_
      rintro e w1 ⟨rfl, hw1⟩
      subst hw1
      go_wp2_with fail
      go_ret
      exact ⟨rfl, rfl⟩
  | false =>
    cases c with
    | true =>
      have hR := unhide HR
      simp at hR
      subst hR
      clear HR
      go_enter Tryz.func94, Tryz.ntmps94
      go_wp2_with fail
      refine (unhide HI).mono ?_
      rintro e w1 ⟨rfl, hw1⟩
      subst hw1
      go_wp2_with fail
      refine (unhide HI).mono ?_
      rintro e w1 ⟨rfl, hw1⟩
      subst hw1
      go_wp2_with fail
      refine (unhide HK).mono ?_
      rintro e w1 ⟨rfl, hw1⟩
      subst hw1
      go_wp2_with fail
      go_ret
      exact ⟨rfl, rfl⟩
    | false =>
      have hR := unhide HR
      simp at hR
      subst hR
      clear HR
      go_enter Tryz.func94, Tryz.ntmps94
      go_wp2_with fail
      refine (unhide HI).mono ?_
      rintro e w1 ⟨rfl, hw1⟩
      subst hw1
      go_wp2_with fail
      refine (unhide HI).mono ?_
      rintro e w1 ⟨rfl, hw1⟩
      subst hw1
      go_wp2_with fail
      refine (unhide HK).mono ?_
      rintro e w1 ⟨rfl, hw1⟩
      subst hw1
      go_wp2_with fail
      refine (unhide HI).mono ?_
      rintro e w1 ⟨rfl, hw1⟩
      subst hw1
      go_wp2_with fail
      go_ret
      exact ⟨rfl, rfl⟩

end Go.Proofs.YtnpeiibecihleaaGreatDoor

/- Directories (stage 13): the tree's own calls: Walk, Make, Mkdir, Symlink, Hold, Loose, Write. -/
namespace Go.Proofs.YtnpeiibecihleaaGreatDoor
open Go.RowKit Go.Maps

/-- A tree at f, its nodes at q. -/
structure FX (w : World) (f q : Nat) (Y : Nat → Prop) (s : NS) (nb n : Nat) (B : Bas) : Prop where
  nd : NdX w q Y s nb n B
  blk : Blk w f 76 #[.pointer (some ⟨q, 0, none⟩)]
  no : ¬ Y f
  new : ∀ k, w.heap.size ≤ k → Y k
theorem FX.below {w w' : World} {f q nb n : Nat} {B : Bas} {Y : Nat → Prop} {s : NS} (H : FX w f q Y s nb n B) (hb : Below w.heap.size w w') : FX w' f q Y s nb n B := ⟨H.nd.below hb, H.blk.below hb H.blk.lt, H.no, fun k hk => H.new k (Nat.le_trans hb.size hk)⟩
theorem FX.turn {w w' : World} {f q nb n n' : Nat} {B : Bas} {Y : Nat → Prop} {s s' : NS} (H : FX w f q Y s nb n B) (h1 : NdAt w' q Y s' nb) (h2 : GrownS w w' Y) (h3 : NOk s' n') : FX w' f q Y s' nb n' B := ⟨H.nd.turn h1 h2 h3, H.blk.grownS h2 H.no, H.no, fun k hk => H.new k (Nat.le_trans h2.size hk)⟩
theorem FX.mono {w : World} {f q nb n n' : Nat} {B : Bas} {Y : Nat → Prop} {s : NS} (H : FX w f q Y s nb n B) (h : n ≤ n') : FX w f q Y s nb n' B := ⟨⟨H.nd.at', H.nd.ok.mono h, H.nd.env, H.nd.yb⟩, H.blk, H.no, H.new⟩
/-- What came in between is not turned. -/
theorem FX.renew {w w' : World} {f q nb n : Nat} {B : Bas} {Y : Nat → Prop} {s : NS} (H : FX w f q Y s nb n B) (hb : Below w.heap.size w w') : FX w' f q (fun k => Upto w Y k ∨ w'.heap.size ≤ k) s nb n B := by
  have h := H.nd.tight.below hb
  refine ⟨⟨h.at'.mono (fun k _ hk => .inl hk), h.ok, h.env, fun k hk => ?_⟩, H.blk.below hb H.blk.lt, ?_, fun k hk => .inr hk⟩
  · rcases hk with hk | hk
    · exact H.nd.yb k hk.1
    · exact h.env.le k hk
  · rintro (hk | hk)
    · exact H.no hk.1
    · have := H.blk.lt
      have := hb.size
      omega
set_option maxRecDepth 20000 in
set_option maxHeartbeats 1000000 in
theorem empty_any {w : World} {f q nb n : Nat} {B : Bas} {Y : Nat → Prop} {s : NS} (H : FX w f q Y s nb n B) : Calls Tryz.prog 53 #[.pointer (some ⟨f, 0, none⟩)] w fun e w' => e = .returned (.bool false) ∧ w' = w := by
  have c0 : w.cell? ⟨f, 0, none⟩ = some (.pointer (some ⟨q, 0, none⟩)) := H.blk.cell 0 rfl
  clear H
  go_enter Tryz.func53, Tryz.ntmps53
  go_wp2_with fail
  go_ret
  exact ⟨rfl, rfl⟩
set_option maxRecDepth 20000 in
theorem empty_nil (w : World) : Calls Tryz.prog 53 #[.pointer none] w fun e w' => e = .returned (.bool true) ∧ w' = w := by
  go_enter Tryz.func53, Tryz.ntmps53
  go_wp2_with fail
  go_ret
  exact ⟨rfl, rfl⟩
def refE (s : NS) (d : Int) : Int := if isD s d then 0 else 25
set_option maxRecDepth 20000 in
set_option maxHeartbeats 1000000 in
theorem refuse_any {w : World} {f q nb n : Nat} {B : Bas} {Y : Nat → Prop} {s : NS} (H : FX w f q Y s nb n B) (d : Int) (hb : -9223372036854775808 ≤ d ∧ d ≤ 9223372036854775807) : Calls Tryz.prog 84 #[.pointer (some ⟨f, 0, none⟩), .int .i64 d] w fun e w' => e = .returned (.int .i64 (refE s d)) ∧ w' = w := by
  have c0 : w.cell? ⟨f, 0, none⟩ = some (.pointer (some ⟨q, 0, none⟩)) := H.blk.cell 0 rfl
  have HE := hide (empty_any H)
  have HD := hide (isDir_any H.nd d hb)
  unfold refE
  generalize isD s d = a at HD
  clear H
  cases a with
  | true =>
    go_enter Tryz.func84, Tryz.ntmps84
    go_wp2_with fail
    refine (unhide HE).mono ?_
    rintro e w1 ⟨rfl, hw1⟩
    subst hw1
    go_wp2_with fail
    refine (unhide HD).mono ?_
    rintro e w1 ⟨rfl, hw1⟩
    subst hw1
    go_wp2_with fail
    go_ret
    exact ⟨rfl, rfl⟩
  | false =>
    go_enter Tryz.func84, Tryz.ntmps84
    go_wp2_with fail
    refine (unhide HE).mono ?_
    rintro e w1 ⟨rfl, hw1⟩
    subst hw1
    go_wp2_with fail
    refine (unhide HD).mono ?_
    rintro e w1 ⟨rfl, hw1⟩
    subst hw1
    go_wp2_with fail
    go_ret
    exact ⟨rfl, rfl⟩
set_option maxRecDepth 20000 in
set_option maxHeartbeats 1000000 in
theorem refuse_nil (d : Int) (w : World) : Calls Tryz.prog 84 #[.pointer none, .int .i64 d] w fun e w' => e = .returned (.int .i64 2) ∧ w' = w := by
  go_enter Tryz.func84, Tryz.ntmps84
  go_wp2_with fail
  refine (empty_nil w).mono ?_
  rintro e w1 ⟨rfl, rfl⟩
  go_wp2_with fail
  go_ret
  exact ⟨rfl, rfl⟩
theorem isD_rng {s : NS} {n : Nat} (K : NOk s n) {d : Int} (h : isD s d = true) : 0 ≤ d ∧ d ≤ 1024 := by
  have := K.rng (d := d) (of_decide_eq_true h)
  omega
set_option maxRecDepth 20000 in
set_option maxHeartbeats 1000000 in
theorem walk_any {w : World} {f q nb n : Nat} {B : Bas} {Y : Nat → Prop} {s : NS} (H : FX w f q Y s nb n B) (d : Int) (p : List UInt8) (fl : Bool) (hb : -9223372036854775808 ≤ d ∧ d ≤ 9223372036854775807) (hp : p.length ≤ 100000) : Calls Tryz.prog 74 #[.pointer (some ⟨f, 0, none⟩), .int .i64 d, .string (BA p), .bool fl] w fun e w' => e = .returned (.tuple #[.int .i64 (walkN s d p fl).1, .int .i64 (walkN s d p fl).2]) ∧ Below w.heap.size w w' := by
  have c0 : w.cell? ⟨f, 0, none⟩ = some (.pointer (some ⟨q, 0, none⟩)) := H.blk.cell 0 rfl
  have HR := hide (refuse_any H d hb)
  obtain ⟨RR, hRR⟩ : ∃ RR, RR = walkN s d p fl := ⟨_, rfl⟩
  have HRR := hide hRR
  rw [← hRR]
  unfold walkN at HRR
  unfold refE at HR
  clear hRR
  cases hd : isD s d with
  | false =>
    rw [hd] at HR HRR
    simp only [Bool.false_eq_true, if_false] at HR HRR
    clear H hd
    go_enter Tryz.func74, Tryz.ntmps74
    go_wp2_with fail
    refine (unhide HR).mono ?_
    rintro e w1 ⟨rfl, hw1⟩
    subst hw1
    go_wp2_with fail
    go_ret2
    rw [unhide HRR]
    exact ⟨rfl, Below.refl _ _⟩
  | true =>
    have hr := isD_rng H.nd.ok hd
    have HW := hide (walkFrom_any H.nd d p fl hr.1 hr.2 hp)
    rw [hd] at HR HRR
    simp only [if_true] at HR HRR
    obtain ⟨G, hG⟩ : ∃ G, G = goesN s 8 d p fl 8 := ⟨_, rfl⟩
    rw [← hG] at HW HRR
    clear H hd hr hG
    go_enter Tryz.func74, Tryz.ntmps74
    go_wp2_with fail
    refine (unhide HR).mono ?_
    rintro e w1 ⟨rfl, hw1⟩
    subst hw1
    go_wp2_with fail
    refine (unhide HW).mono ?_
    rintro e w2 ⟨rfl, b2⟩
    have HB := hide b2
    clear b2
    go_wp2_with fail
    go_ret2
    rw [unhide HRR]
    exact ⟨rfl, unhide HB⟩
theorem place_no {s : NS} {d : Int} (h : isD s d = false) (p : List UInt8) : placeN s d p = (0, [], 25) := by
  unfold placeN
  rw [if_pos h]
theorem room_no {s : NS} {d : Int} (h : isD s d = false) (p : List UInt8) : (roomN s d p).2.2 = 25 := by
  unfold roomN
  rw [place_no h]
  rfl
set_option maxRecDepth 20000 in
set_option maxHeartbeats 1000000 in
theorem make_any {w : World} {f q nb n : Nat} {B : Bas} {Y : Nat → Prop} {s : NS} (H : FX w f q Y s nb n B) (hnn : n ≤ 10000) (d : Int) (p : List UInt8) (hb : -9223372036854775808 ≤ d ∧ d ≤ 9223372036854775807) (hp : p.length ≤ 100000) : Calls Tryz.prog 119 #[.pointer (some ⟨f, 0, none⟩), .int .i64 d, .string (BA p)] w fun e w' => ∃ N E, e = .returned (.tuple #[.int .i64 N, .int .i64 E]) ∧ Hid (∃ s', MadeSp s nb d p 1 [] N E s' ∧ FX w' f q Y s' nb (n + 1) B) := by
  have c0 : w.cell? ⟨f, 0, none⟩ = some (.pointer (some ⟨q, 0, none⟩)) := H.blk.cell 0 rfl
  have HR := hide (refuse_any H d hb)
  unfold refE at HR
  cases hd : isD s d with
  | false =>
    have HX : Hid (∃ s', MadeSp s nb d p 1 [] 0 25 s' ∧ FX w f q Y s' nb (n + 1) B) := hide ⟨s, by
      have := room_no hd p
      rw [← this]
      exact .bad (by rw [this]; decide), H.mono (Nat.le_succ _)⟩
    rw [hd] at HR
    simp only [Bool.false_eq_true, if_false] at HR
    clear H hd
    go_enter Tryz.func119, Tryz.ntmps119
    go_wp2_with fail
    refine (unhide HR).mono ?_
    rintro e w1 ⟨rfl, hw1⟩
    subst hw1
    go_wp2_with fail
    go_ret2
    exact ⟨_, _, rfl, HX⟩
  | true =>
    have hr := isD_rng H.nd.ok hd
    have HW := hide (create_any H.nd H.new (by omega) d p 1 [] hr.1 hr.2 hp hd (Nat.zero_le _) (fun h => absurd rfl h) (by decide))
    rw [hd] at HR
    simp only [if_true] at HR
    have HH := hide H
    clear H hd hr
    go_enter Tryz.func119, Tryz.ntmps119
    go_wp2_with fail
    refine (unhide HR).mono ?_
    rintro e w1 ⟨rfl, hw1⟩
    subst hw1
    go_wp2_with fail
    refine (unhide HW).mono ?_
    rintro e w2 ⟨N, E, rfl, HM⟩
    go_wp2_with fail
    go_ret2
    obtain ⟨s', m1, m2, m3⟩ := unhide HM
    exact ⟨_, _, rfl, hide ⟨s', m1, (unhide HH).turn m2 m3 (ok_made (unhide HH).nd.ok m1 (fun h => absurd rfl h))⟩⟩
set_option maxRecDepth 20000 in
set_option maxHeartbeats 1000000 in
theorem mkdir_any {w : World} {f q nb n : Nat} {B : Bas} {Y : Nat → Prop} {s : NS} (H : FX w f q Y s nb n B) (hnn : n ≤ 10000) (d : Int) (p : List UInt8) (hb : -9223372036854775808 ≤ d ∧ d ≤ 9223372036854775807) (hp : p.length ≤ 100000) : Calls Tryz.prog 43 #[.pointer (some ⟨f, 0, none⟩), .int .i64 d, .string (BA p)] w fun e w' => ∃ E, e = .returned (.int .i64 E) ∧ Hid (∃ N s', MadeSp s nb d p 2 [] N E s' ∧ FX w' f q Y s' nb (n + 1) B) := by
  have c0 : w.cell? ⟨f, 0, none⟩ = some (.pointer (some ⟨q, 0, none⟩)) := H.blk.cell 0 rfl
  have HR := hide (refuse_any H d hb)
  unfold refE at HR
  cases hd : isD s d with
  | false =>
    have HX : Hid (∃ N s', MadeSp s nb d p 2 [] N 25 s' ∧ FX w f q Y s' nb (n + 1) B) := hide ⟨0, s, by
      have := room_no hd p
      rw [← this]
      exact .bad (by rw [this]; decide), H.mono (Nat.le_succ _)⟩
    rw [hd] at HR
    simp only [Bool.false_eq_true, if_false] at HR
    clear H hd
    go_enter Tryz.func43, Tryz.ntmps43
    go_wp2_with fail
    refine (unhide HR).mono ?_
    rintro e w1 ⟨rfl, hw1⟩
    subst hw1
    go_wp2_with fail
    go_ret
    exact ⟨_, rfl, HX⟩
  | true =>
    have hr := isD_rng H.nd.ok hd
    have HW := hide (create_any H.nd H.new (by omega) d p 2 [] hr.1 hr.2 hp hd (Nat.zero_le _) (fun h => absurd rfl h) (by decide))
    rw [hd] at HR
    simp only [if_true] at HR
    have HH := hide H
    clear H hd hr
    go_enter Tryz.func43, Tryz.ntmps43
    go_wp2_with fail
    refine (unhide HR).mono ?_
    rintro e w1 ⟨rfl, hw1⟩
    subst hw1
    go_wp2_with fail
    refine (unhide HW).mono ?_
    rintro e w2 ⟨N, E, rfl, HM⟩
    go_wp2_with fail
    go_ret
    obtain ⟨s', m1, m2, m3⟩ := unhide HM
    exact ⟨_, rfl, hide ⟨N, s', m1, (unhide HH).turn m2 m3 (ok_made (unhide HH).nd.ok m1 (fun h => absurd rfl h))⟩⟩
/-- What Symlink answers and leaves. -/
def SymSp (s : NS) (nb : Nat) (d : Int) (t p : List UInt8) (E : Int) (s' : NS) : Prop := (isD s d = false ∧ E = 25 ∧ s' = s) ∨ (isD s d = true ∧ t = [] ∧ E = 1 ∧ s' = s) ∨ (isD s d = true ∧ 256 < t.length ∧ E = 3 ∧ s' = s) ∨ ∃ N, MadeSp s nb d p 3 t N E s'
set_option maxRecDepth 20000 in
set_option maxHeartbeats 1000000 in
theorem symlink_any {w : World} {f q nb n : Nat} {B : Bas} {Y : Nat → Prop} {s : NS} (H : FX w f q Y s nb n B) (hnn : n ≤ 10000) (d : Int) (t p : List UInt8) (hb : -9223372036854775808 ≤ d ∧ d ≤ 9223372036854775807) (hp : p.length ≤ 100000) (ht : t.length ≤ 100000) : Calls Tryz.prog 45 #[.pointer (some ⟨f, 0, none⟩), .int .i64 d, .string (BA t), .string (BA p)] w fun e w' => ∃ E, e = .returned (.int .i64 E) ∧ Hid (∃ s', SymSp s nb d t p E s' ∧ FX w' f q Y s' nb (n + 1) B) := by
  have c0 : w.cell? ⟨f, 0, none⟩ = some (.pointer (some ⟨q, 0, none⟩)) := H.blk.cell 0 rfl
  have HR := hide (refuse_any H d hb)
  unfold refE at HR
  have he := emp_eq t
  cases hd : isD s d with
  | false =>
    have HX : Hid (∃ s', SymSp s nb d t p 25 s' ∧ FX w f q Y s' nb (n + 1) B) := hide ⟨s, .inl ⟨hd, rfl, rfl⟩, H.mono (Nat.le_succ _)⟩
    rw [hd] at HR
    simp only [Bool.false_eq_true, if_false] at HR
    clear H hd he
    go_enter Tryz.func45, Tryz.ntmps45
    go_wp2_with fail
    refine (unhide HR).mono ?_
    rintro e w1 ⟨rfl, hw1⟩
    subst hw1
    go_wp2_with fail
    go_ret
    exact ⟨_, rfl, HX⟩
  | true =>
    have hr := isD_rng H.nd.ok hd
    have HW := hide (create_any H.nd H.new (by omega) d p 3 t hr.1 hr.2 hp hd ht (fun _ => by decide) (by decide))
    rw [hd] at HR
    simp only [if_true] at HR
    have HDD := hide hd
    have HH := hide H
    clear H hd hr
    by_cases ht0 : t = []
    · have HX : Hid (∃ s', SymSp s nb d t p 1 s' ∧ FX w f q Y s' nb (n + 1) B) := hide ⟨s, .inr (.inl ⟨unhide HDD, ht0, rfl, rfl⟩), (unhide HH).mono (Nat.le_succ _)⟩
      rw [decide_eq_true ht0] at he
      clear ht0
      go_enter Tryz.func45, Tryz.ntmps45
      go_wp2_with fail
      refine (unhide HR).mono ?_
      rintro e w1 ⟨rfl, hw1⟩
      subst hw1
      go_wp2_with fail
      go_ret
      exact ⟨_, rfl, HX⟩
    · rw [decide_eq_false ht0] at he
      clear ht0
      by_cases ht1 : 256 < t.length
      · have HX : Hid (∃ s', SymSp s nb d t p 3 s' ∧ FX w f q Y s' nb (n + 1) B) := hide ⟨s, .inr (.inr (.inl ⟨unhide HDD, ht1, rfl, rfl⟩)), (unhide HH).mono (Nat.le_succ _)⟩
        go_enter Tryz.func45, Tryz.ntmps45
        go_wp2_with fail
        refine (unhide HR).mono ?_
        rintro e w1 ⟨rfl, hw1⟩
        subst hw1
        go_wp2_with fail
        go_ret
        exact ⟨_, rfl, HX⟩
      · go_enter Tryz.func45, Tryz.ntmps45
        go_wp2_with fail
        refine (unhide HR).mono ?_
        rintro e w1 ⟨rfl, hw1⟩
        subst hw1
        go_wp2_with fail
        refine (unhide HW).mono ?_
        rintro e w2 ⟨N, E, rfl, HM⟩
        go_wp2_with fail
        go_ret
        obtain ⟨s', m1, m2, m3⟩ := unhide HM
        exact ⟨_, rfl, hide ⟨s', .inr (.inr (.inr ⟨N, m1⟩)), (unhide HH).turn m2 m3 (ok_made (unhide HH).nd.ok m1 (fun _ => by decide))⟩⟩

end Go.Proofs.YtnpeiibecihleaaGreatDoor

/- Directories (stage 13): find. -/
namespace Go.Proofs.YtnpeiibecihleaaGreatDoor
open Go.RowKit Go.Maps

theorem res_place3 {fn : Func} {t u v : Tmp} (h : fn.results = #[.cell t 109, .tmp u, .tmp v]) (tmps : Array Value) (w : World) (b : Nat) (x0 x1 : Value) (ht : tmps.getD t undef = .pointer (some ⟨b, 0, none⟩))
    (h0 : w.cell? ⟨b, 0, none⟩ = some x0) (h1 : w.cell? ⟨b, 1, none⟩ = some x1) :
    (results fn tmps).run Tryz.prog w = .ok (.tuple #[.agg #[x0, x1], tmps.getD u undef, tmps.getD v undef]) w := by
  have ht' : tmps[t]?.getD undef = .pointer (some ⟨b, 0, none⟩) := by simpa using ht
  unfold results
  rw [h]
  simp [ht', go_sem, h0, h1]
def fndE (s : NS) (d : Int) (p : List UInt8) : Int := if (placeN s d p).2.2 ≠ 0 then (placeN s d p).2.2 else if findN s (placeN s d p).1 (placeN s d p).2.1 = 0 then 23 else 0
structure FndIs (s : NS) (d : Int) (p : List UInt8) (N : Int) (t : List UInt8) (I E : Int) : Prop where
  e : E = fndE s d p
  ok : E = 0 → (placeN s d p).2.2 = 0 ∧ N = (placeN s d p).1 ∧ t = (placeN s d p).2.1 ∧ I = findN s N t ∧ I ≠ 0
  len : t.length ≤ 100000
  rng : (0 ≤ N ∧ N ≤ 1024) ∧ 0 ≤ I ∧ I ≤ 1024
theorem fnd_no {s : NS} {d : Int} {p : List UInt8} {E : Int} (h : fndE s d p = E) (hE : E ≠ 0) : FndIs s d p 0 [] 0 E := ⟨h.symm, fun e => absurd e hE, Nat.zero_le _, by decide, by decide⟩
set_option maxRecDepth 20000 in
set_option maxHeartbeats 4000000 in
theorem nfind_any {w : World} {f q nb n : Nat} {B : Bas} {Y : Nat → Prop} {s : NS} (H : FX w f q Y s nb n B) (d : Int) (p : List UInt8) (hb : -9223372036854775808 ≤ d ∧ d ≤ 9223372036854775807) (hp : p.length ≤ 100000) : Calls Tryz.prog 62 #[.pointer (some ⟨f, 0, none⟩), .int .i64 d, .string (BA p)] w fun e w' => ∃ N t I E, e = .returned (.tuple #[.agg #[.int .i64 N, .string (BA t)], .int .i64 I, .int .i64 E]) ∧ Hid (FndIs s d p N t I E ∧ Below w.heap.size w w') := by
  have hbw : Below w.heap.size w (w.alloc (.cells #[.int .i64 0, .string ⟨#[]⟩] 109)) := (Below.refl _ w).alloc (Nat.le_refl _) _
  have hnew := Blk.new w 109 #[.int .i64 0, .string ⟨#[]⟩]
  have H1 := H.below hbw
  obtain ⟨pb, hpb⟩ : ∃ pb, pb = w.heap.size := ⟨_, rfl⟩
  have HPB : Hid (w.heap.size ≤ pb) := hide (by rw [hpb]; exact Nat.le_refl _)
  have HPB0 := hide hpb
  rw [← hpb] at hnew
  have HK2 := hide hnew
  have HB2 := hide hbw
  have f0 : (w.alloc (.cells #[.int .i64 0, .string ⟨#[]⟩] 109)).cell? ⟨pb, 0, none⟩ = some (.int .i64 0) := hnew.cell 0 rfl
  have f1 : (w.alloc (.cells #[.int .i64 0, .string ⟨#[]⟩] 109)).cell? ⟨pb, 1, none⟩ = some (.string ⟨#[]⟩) := hnew.cell 1 rfl
  have f2 : (w.alloc (.cells #[.int .i64 0, .string ⟨#[]⟩] 109)).frozen? ⟨pb, 0, none⟩ = false := hnew.frozen 0
  have f3 : (w.alloc (.cells #[.int .i64 0, .string ⟨#[]⟩] 109)).frozen? ⟨pb, 1, none⟩ = false := hnew.frozen 1
  have HR := hide (refuse_any H1 d hb)
  have c0 : (w.alloc (.cells #[.int .i64 0, .string ⟨#[]⟩] 109)).cell? ⟨f, 0, none⟩ = some (.pointer (some ⟨q, 0, none⟩)) := H1.blk.cell 0 rfl
  unfold refE at HR
  clear hnew hbw
  cases hd : isD s d with
  | false =>
    have HRES : Hid (FndIs s d p 0 [] 0 25) := hide (fnd_no (by unfold fndE; rw [place_no hd]; rfl) (by decide))
    rw [hd] at HR
    simp only [Bool.false_eq_true, if_false] at HR
    subst hpb
    clear H H1 hd c0 HPB0
    obtain ⟨pb, hpb⟩ : ∃ pb, pb = w.heap.size := ⟨_, rfl⟩
    rw [← hpb] at HK2 f0 f1 f2 f3
    clear HPB
    have HPB : Hid (w.heap.size ≤ pb) := hide (by rw [hpb]; exact Nat.le_refl _)
    go_enter Tryz.func62, Tryz.ntmps62
    go_wp2_with fail
    refine (unhide HR).mono ?_
    rintro e w1 ⟨rfl, hw1⟩
    subst hw1
    rw [← hpb]
    clear hpb
    go_wp2_with fail
    refine bodyPost_ret (res_place3 rfl _ _ pb _ _ rfl (by first | exact (((unhide HK2).set 0 _).set 1 _).cell 0 rfl | exact (unhide HK2).cell 0 rfl) (by first | exact (((unhide HK2).set 0 _).set 1 _).cell 1 rfl | exact (unhide HK2).cell 1 rfl)) rfl ⟨_, _, _, _, rfl, hide ⟨unhide HRES, by first | exact below_set2 (unhide HB2) (unhide HPB) _ _ | exact unhide HB2⟩⟩
  | true =>
    have hr := isD_rng H.nd.ok hd
    have HPO := hide (placeOf_any H1.nd d p hr.1 hr.2 hp hd)
    rw [hd] at HR
    simp only [if_true] at HR
    have HH := hide H1
    clear H H1 hd hr
    obtain ⟨W1, hW1⟩ : ∃ W1, W1 = w.alloc (.cells #[.int .i64 0, .string ⟨#[]⟩] 109) := ⟨_, rfl⟩
    rw [← hW1] at HK2 HB2 HR HPO HH c0 f0 f1 f2 f3
    have HW1 := hide hW1
    clear hW1 hpb
    go_enter Tryz.func62, Tryz.ntmps62
    go_wp2_with fail
    rw [← unhide HW1, ← unhide HPB0]
    refine (unhide HR).mono ?_
    rintro e w1 ⟨rfl, hw1⟩
    have hw2 := hw1.symm
    subst hw2
    clear hw1
    go_wp2_with fail
    refine (unhide HPO).mono ?_
    rintro e w2 ⟨N, t, E, rfl, HP⟩
    have HPI := hide (unhide HP).1
    have ht := (unhide HPI).2.2.1
    have hN0 := (unhide HPI).2.2.2.1
    have hN1 := (unhide HPI).2.2.2.2
    have hbw3 : Below w2.heap.size w2 (w2.alloc (.cells #[.int .i64 N, .string (BA t)] 109)) := (Below.refl _ w2).alloc (Nat.le_refl _) _
    have hb13 : Below W1.heap.size W1 (w2.alloc (.cells #[.int .i64 N, .string (BA t)] 109)) := (unhide HP).2.trans (hbw3.mono (unhide HP).2.size)
    have HB3 := hide ((unhide HB2).trans (hb13.mono (unhide HB2).size))
    have HK3 := hide ((unhide HK2).below hb13 (unhide HK2).lt)
    have HA3 := hide (Blk.new w2 109 #[.int .i64 N, .string (BA t)])
    have HX3 := hide ((unhide HH).below hb13)
    obtain ⟨ab, hab⟩ : ∃ ab, ab = w2.heap.size := ⟨_, rfl⟩
    have HAB := hide hab
    rw [← hab] at HA3
    clear HR HPO HP hbw3 hb13 f0 f1 f2 f3 c0 HK2 HB2 HH hab HW1 HPB0
    have HK2 := HK3
    have HB2 := HB3
    clear HK3 HB3
    have f0 : (w2.alloc (.cells #[.int .i64 N, .string (BA t)] 109)).cell? ⟨pb, 0, none⟩ = some (.int .i64 0) := (unhide HK2).cell 0 rfl
    have f1 : (w2.alloc (.cells #[.int .i64 N, .string (BA t)] 109)).cell? ⟨pb, 1, none⟩ = some (.string ⟨#[]⟩) := (unhide HK2).cell 1 rfl
    have f2 : (w2.alloc (.cells #[.int .i64 N, .string (BA t)] 109)).frozen? ⟨pb, 0, none⟩ = false := (unhide HK2).frozen 0
    have f3 : (w2.alloc (.cells #[.int .i64 N, .string (BA t)] 109)).frozen? ⟨pb, 1, none⟩ = false := (unhide HK2).frozen 1
    by_cases hE : E = 0
    · subst hE
      have HPE := hide (unhide HPI).1.symm
      have HPV := hide ((unhide HPI).2.1 (unhide HPE))
      have HFE : Hid (fndE s d p = if findN s N t = 0 then 23 else 0) := hide (by unfold fndE; rw [unhide HPE, if_neg (by decide), ← (unhide HPV).1, ← (unhide HPV).2])
      go_upto_region 7 with fail
      obtain ⟨W3, hW3⟩ : ∃ W3, W3 = w2.alloc (.cells #[.int .i64 N, .string (BA t)] 109) := ⟨_, rfl⟩
      rw [← hW3] at HK2 HB2 HA3 HX3 f0 f1 f2 f3 ⊢
      rw [← unhide HAB]
      have c0 : W3.cell? ⟨f, 0, none⟩ = some (.pointer (some ⟨q, 0, none⟩)) := (unhide HX3).blk.cell 0 rfl
      have g0 : W3.cell? ⟨ab, 0, none⟩ = some (.int .i64 N) := (unhide HA3).cell 0 rfl
      have g1 : W3.cell? ⟨ab, 1, none⟩ = some (.string (BA t)) := (unhide HA3).cell 1 rfl
      have HLK : Hid (∀ W, FX W f q Y s nb n B ∧ Below W3.heap.size W3 W → Calls Tryz.prog 91 #[.pointer (some ⟨q, 0, none⟩), .agg #[.int .i64 N, .string (BA t)]] W fun e w' => e = .returned (.tuple #[.int .i64 (findN s N t), .bool (isN s N t)]) ∧ w'.cell? ⟨f, 0, none⟩ = some (.pointer (some ⟨q, 0, none⟩)) ∧ (w'.cell? ⟨ab, 0, none⟩ = some (.int .i64 N) ∧ w'.cell? ⟨ab, 1, none⟩ = some (.string (BA t))) ∧ Hid (Below W3.heap.size W3 w')) := hide (fun W h => (lookup_any h.1.nd N t (by omega) (by omega)).mono fun _ w' ⟨e1, e2⟩ => by
        have hb3 := h.2.trans (e2.mono h.2.size)
        have ha := (unhide HA3).below hb3 (unhide HA3).lt
        exact ⟨e1, (h.1.below e2).blk.cell 0 rfl, ⟨ha.cell 0 rfl, ha.cell 1 rfl⟩, hide hb3⟩)
      have H0 := hide (show FX W3 f q Y s nb n B ∧ Below W3.heap.size W3 W3 from ⟨unhide HX3, Below.refl _ _⟩)
      have HD : Hid (∀ W k, FX W f q Y s nb n B ∧ Below W3.heap.size W3 W → FX (W.drewN k) f q Y s nb n B ∧ Below W3.heap.size W3 (W.drewN k)) := hide (fun W k h => ⟨h.1.below (below_drew W k), h.2.trans ((below_drew W k).mono h.2.size)⟩)
      have hfb := (unhide HX3).nd.ok.find N t
      obtain ⟨I, hI⟩ : ∃ I, I = findN s N t := ⟨_, rfl⟩
      have HI := hide hI
      rw [← hI] at HLK HFE hfb
      clear hW3 f0 f1 f2 f3
      by_cases hI0 : I = 0
      · rw [show isN s N t = false from decide_eq_false (by rw [← hI, hI0]; decide)] at HLK
        rw [if_pos hI0] at HFE
        have HRES : Hid (FndIs s d p 0 [] 0 23) := hide (fnd_no (unhide HFE) (by decide))
        clear hI hI0
        go_wp2_with fail
        go_region_held3 (fun w' => w'.cell? ⟨f, 0, none⟩ = some (.pointer (some ⟨q, 0, none⟩)) ∧ w'.cell? ⟨ab, 0, none⟩ = some (.int .i64 N) ∧ w'.cell? ⟨ab, 1, none⟩ = some (.string (BA t))) (go_keep) ((go_at_call 91; refine (unhide HLK _ (by first | exact unhide H0 | exact unhide HD _ _ (unhide H0))).mono ?_; rintro e wa ⟨rfl, a1, a2, HA⟩))
        have HK4 := hide ((unhide HK2).below (unhide HA) (unhide HK2).lt)
        have HB4 := hide ((unhide HB2).trans ((unhide HA).mono (unhide HB2).size))
        clear HK2 HB2 c0 g0 g1
        have HK2 := HK4
        have HB2 := HB4
        have f0 : wa.cell? ⟨pb, 0, none⟩ = some (.int .i64 0) := (unhide HK2).cell 0 rfl
        have f1 : wa.cell? ⟨pb, 1, none⟩ = some (.string ⟨#[]⟩) := (unhide HK2).cell 1 rfl
        have f2 : wa.frozen? ⟨pb, 0, none⟩ = false := (unhide HK2).frozen 0
        have f3 : wa.frozen? ⟨pb, 1, none⟩ = false := (unhide HK2).frozen 1
        go_wp2_with fail
        refine bodyPost_ret (res_place3 rfl _ _ pb _ _ rfl (by first | exact (((unhide HK2).set 0 _).set 1 _).cell 0 rfl | exact (unhide HK2).cell 0 rfl) (by first | exact (((unhide HK2).set 0 _).set 1 _).cell 1 rfl | exact (unhide HK2).cell 1 rfl)) rfl ⟨_, _, _, _, rfl, hide ⟨unhide HRES, by first | exact below_set2 (unhide HB2) (unhide HPB) _ _ | exact unhide HB2⟩⟩
      · rw [show isN s N t = true from decide_eq_true (by rw [← hI]; exact hI0)] at HLK
        rw [if_neg hI0] at HFE
        have HRES : Hid (FndIs s d p N t I 0) := hide ⟨(unhide HFE).symm, fun _ => ⟨unhide HPE, (unhide HPV).1, (unhide HPV).2, hI, hI0⟩, ht, ⟨hN0, hN1⟩, hfb⟩
        clear hI hI0
        go_wp2_with fail
        go_region_held3 (fun w' => w'.cell? ⟨f, 0, none⟩ = some (.pointer (some ⟨q, 0, none⟩)) ∧ w'.cell? ⟨ab, 0, none⟩ = some (.int .i64 N) ∧ w'.cell? ⟨ab, 1, none⟩ = some (.string (BA t))) (go_keep) ((go_at_call 91; refine (unhide HLK _ (by first | exact unhide H0 | exact unhide HD _ _ (unhide H0))).mono ?_; rintro e wa ⟨rfl, a1, a2, HA⟩))
        have HK4 := hide ((unhide HK2).below (unhide HA) (unhide HK2).lt)
        have HB4 := hide ((unhide HB2).trans ((unhide HA).mono (unhide HB2).size))
        have g0' := a2.1
        have g1' := a2.2
        clear HK2 HB2 c0 g0 g1 a2
        have HK2 := HK4
        have HB2 := HB4
        have f0 : wa.cell? ⟨pb, 0, none⟩ = some (.int .i64 0) := (unhide HK2).cell 0 rfl
        have f1 : wa.cell? ⟨pb, 1, none⟩ = some (.string ⟨#[]⟩) := (unhide HK2).cell 1 rfl
        have f2 : wa.frozen? ⟨pb, 0, none⟩ = false := (unhide HK2).frozen 0
        have f3 : wa.frozen? ⟨pb, 1, none⟩ = false := (unhide HK2).frozen 1
        go_wp2_with fail
        refine bodyPost_ret (res_place3 rfl _ _ pb _ _ rfl (by first | exact (((unhide HK2).set 0 _).set 1 _).cell 0 rfl | exact (unhide HK2).cell 0 rfl) (by first | exact (((unhide HK2).set 0 _).set 1 _).cell 1 rfl | exact (unhide HK2).cell 1 rfl)) rfl ⟨_, _, _, _, rfl, hide ⟨unhide HRES, by first | exact below_set2 (unhide HB2) (unhide HPB) _ _ | exact unhide HB2⟩⟩
    · have hE1 : (E != 0) = true := by simpa using hE
      have HRES : Hid (FndIs s d p 0 [] 0 E) := hide (fnd_no (by
        have h := (unhide HPI).1
        unfold fndE
        rw [if_pos (by rw [← h]; exact hE)]
        exact h.symm) hE)
      clear hE
      go_wp2_with fail
      refine bodyPost_ret (res_place3 rfl _ _ pb _ _ rfl (by first | exact (((unhide HK2).set 0 _).set 1 _).cell 0 rfl | exact (unhide HK2).cell 0 rfl) (by first | exact (((unhide HK2).set 0 _).set 1 _).cell 1 rfl | exact (unhide HK2).cell 1 rfl)) rfl ⟨_, _, _, _, rfl, hide ⟨unhide HRES, by first | exact below_set2 (unhide HB2) (unhide HPB) _ _ | exact unhide HB2⟩⟩

end Go.Proofs.YtnpeiibecihleaaGreatDoor

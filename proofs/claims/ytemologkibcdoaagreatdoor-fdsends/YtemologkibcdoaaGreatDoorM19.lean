/-
  Directories (stage 13): step.
  Directories (stage 13): along.
-/
import Derived.Test.YtemologkibcdoaaGreatDoorM18

/- Directories (stage 13): step. -/
namespace Go.Proofs.YtemologkibcdoaaGreatDoor
open Go.RowKit Go.Maps

theorem txt_eq (p c : List UInt8) : ((BA p).toList == c) = decide (p = c) := by
  rw [ByteArray.toList_eq]
  show (p == c) = _
  by_cases h : p = c <;> simp [h]
theorem emp_eq (p : List UInt8) : (BA p).toList.isEmpty = decide (p = []) := by
  rw [ByteArray.toList_eq]
  show p.isEmpty = _
  cases p <;> simp
set_option maxRecDepth 20000 in
set_option maxHeartbeats 1000000 in
theorem above_any {w : World} {q nb n : Nat} {B : Bas} {Y : Nat → Prop} {s : NS} (H : NdX w q Y s nb n B) (a : Int) (hb : -9223372036854775808 ≤ a ∧ a ≤ 9223372036854775807) (hd : kdI s.T a = 2) : Calls Tryz.prog 115 #[.pointer (some ⟨q, 0, none⟩), .int .i64 a] w fun e w' => e = .returned (.tuple #[.int .i64 (s.par a), .int .i64 (if s.par a = 0 then 25 else 0)]) ∧ w' = w := by
  obtain ⟨t, dm, M, X, HL, _⟩ := H.at'
  have c1 : w.cell? ⟨q, 1, none⟩ = some (.map (some dm)) := HL.nds.cell 1 rfl
  have hl := HL.look (d := a) hb
  have hpar : parOf s a = s.par a := if_pos hd
  rw [hpar] at hl
  obtain ⟨mm, hmm⟩ : ∃ mm, mm = mapOf s M a := ⟨_, rfl⟩
  rw [← hmm] at hl
  have hfd := fld_par (s.par a) mm
  obtain ⟨pp, hpp⟩ : ∃ pp, pp = s.par a := ⟨_, rfl⟩
  rw [← hpp] at hl hfd ⊢
  clear H HL hmm hpar hpp hd
  by_cases h0 : pp = 0
  · subst h0
    go_enter Tryz.func115, Tryz.ntmps115
    go_wp2_with fail
    go_ret2
    exact ⟨rfl, rfl⟩
  · have h1 : (pp == 0) = false := by rw [beq_eq_false_iff_ne]; exact h0
    rw [if_neg h0]
    clear h0
    go_enter Tryz.func115, Tryz.ntmps115
    go_wp2_with fail
    go_ret2
    exact ⟨rfl, rfl⟩
set_option maxRecDepth 20000 in
set_option maxHeartbeats 4000000 in
theorem step_any {m : Nat} {w : World} {b q nb n : Nat} {B : Bas} {r : Nat} {Y : Nat → Prop} {s : NS} (H : Wk w b q Y s nb n B r) (AG : ∀ k, m = k + 1 → AlgAt b q Y s nb n B k) (hr : r ≤ m) (a : Int) (p : List UInt8) (f : Bool) (h0 : 0 ≤ a) (h1 : a ≤ 1024) (hp : p.length ≤ 100000) : Calls Tryz.prog 90 #[.pointer (some ⟨b, 0, none⟩), .int .i64 a, .string (BA p), .bool f] w fun e w' => ∃ (N E : Int) (r' : Nat), (N, E, r') = stepN (goF s m) s a p f r ∧ e = .returned (.tuple #[.int .i64 N, .int .i64 E]) ∧ Hid (Wk w' b q Y s nb n B r' ∧ GrownS w w' (fun k => k = b)) := by
  have c0 : w.cell? ⟨b, 0, none⟩ = some (.pointer (some ⟨q, 0, none⟩)) := H.blk.cell 0 rfl
  have HI := hide (isDir_any H.nd a (by omega))
  have HE : Hid (Wk w b q Y s nb n B r ∧ GrownS w w (fun k => k = b)) := hide ⟨H, grownS_of_below (Below.refl _ _)⟩
  generalize hRR : stepN (goF s m) s a p f r = RR
  have HRR := hide hRR
  clear hRR
  have he := emp_eq p
  have he1 := txt_eq p [46]
  have he2 := txt_eq p [46, 46]
  cases hd : isD s a with
  | false =>
    rw [hd] at HI
    clear H AG he he1 he2
    have HDD := hide hd
    clear hd
    go_enter Tryz.func90, Tryz.ntmps90
    go_wp2_with fail
    refine (unhide HI).mono ?_
    rintro e w1 ⟨rfl, rfl⟩
    go_wp2_with fail
    go_ret2
    exact ⟨0, 25, r, by rw [← unhide HRR]; unfold stepN; rw [if_pos (unhide HDD)], rfl, HE⟩
  | true =>
    rw [hd] at HI
    have HDD : Hid (¬ isD s a = false) := hide (by rw [hd]; decide)
    by_cases hb1 : p = [] ∨ p = [46]
    · have HB := hide hb1
      have HA : Hid (∃ N E r', (N, E, r') = RR ∧ N = a ∧ E = 0 ∧ r' = r) := hide ⟨a, 0, r, by rw [← unhide HRR]; unfold stepN; rw [if_neg (unhide HDD), if_pos hb1], rfl, rfl, rfl⟩
      clear H AG hd
      rcases unhide HB with hb1 | hb1
      · rw [decide_eq_true hb1] at he
        clear he1 he2 hb1 HB
        go_enter Tryz.func90, Tryz.ntmps90
        go_wp2_with fail
        refine (unhide HI).mono ?_
        rintro e w1 ⟨rfl, rfl⟩
        go_wp2_with fail
        go_ret2
        obtain ⟨N, E, r', x1, rfl, rfl, rfl⟩ := unhide HA
        exact ⟨_, _, _, x1, rfl, HE⟩
      · have hne : p ≠ [] := by rw [hb1]; decide
        rw [decide_eq_false hne] at he
        rw [decide_eq_true hb1] at he1
        clear he2 hb1 HB hne
        go_enter Tryz.func90, Tryz.ntmps90
        go_wp2_with fail
        refine (unhide HI).mono ?_
        rintro e w1 ⟨rfl, rfl⟩
        go_wp2_with fail
        go_ret2
        obtain ⟨N, E, r', x1, rfl, rfl, rfl⟩ := unhide HA
        exact ⟨_, _, _, x1, rfl, HE⟩
    · have hne : p ≠ [] := fun e => hb1 (.inl e)
      have hn1 : p ≠ [46] := fun e => hb1 (.inr e)
      rw [decide_eq_false hne] at he
      rw [decide_eq_false hn1] at he1
      have HB := hide hb1
      clear hne hn1 hb1
      by_cases hb2 : p = [46, 46]
      · rw [decide_eq_true hb2] at he2
        have HAB := hide (above_any H.nd a (by omega) (of_decide_eq_true hd))
        have HA : Hid ((s.par a, (if s.par a = 0 then (25 : Int) else 0), r) = RR) := hide (by
          rw [← unhide HRR]
          unfold stepN
          rw [if_neg (unhide HDD), if_neg (unhide HB), if_pos hb2]
          by_cases h : s.par a = 0
          · rw [if_pos h, if_pos h, h]
          · rw [if_neg h, if_neg h])
        obtain ⟨pe, hpe⟩ : ∃ pe : Int, pe = if s.par a = 0 then (25 : Int) else 0 := ⟨_, rfl⟩
        rw [← hpe] at HAB HA
        obtain ⟨pp, hpp⟩ : ∃ pp, pp = s.par a := ⟨_, rfl⟩
        rw [← hpp] at HAB HA
        clear H AG hd hb2 hpp hpe
        go_enter Tryz.func90, Tryz.ntmps90
        go_wp2_with fail
        refine (unhide HI).mono ?_
        rintro e w1 ⟨rfl, rfl⟩
        go_wp2_with fail
        refine (unhide HAB).mono ?_
        rintro e w1 ⟨rfl, hw1⟩
        have hw2 := hw1.symm
        subst hw2
        clear hw1
        go_wp2_with fail
        go_ret2
        exact ⟨_, _, _, unhide HA, rfl, HE⟩
      · rw [decide_eq_false hb2] at he2
        have HB2 := hide hb2
        clear hb2
        by_cases hb3 : 32 < p.length
        · have HA : Hid (∃ N E r', (N, E, r') = RR ∧ N = 0 ∧ E = 3 ∧ r' = r) := hide ⟨0, 3, r, by rw [← unhide HRR]; unfold stepN; rw [if_neg (unhide HDD), if_neg (unhide HB), if_neg (unhide HB2), if_pos hb3], rfl, rfl, rfl⟩
          clear H AG hd
          go_enter Tryz.func90, Tryz.ntmps90
          go_wp2_with fail
          refine (unhide HI).mono ?_
          rintro e w1 ⟨rfl, rfl⟩
          go_wp2_with fail
          go_ret2
          obtain ⟨N, E, r', x1, rfl, rfl, rfl⟩ := unhide HA
          exact ⟨_, _, _, x1, rfl, HE⟩
        · have HLK := hide (lookup_any H.nd a p (by omega) (by omega))
          have HB3 := hide hb3
          have hfb := H.nd.ok.find a p
          by_cases hb4 : findN s a p = 0
          · rw [show isN s a p = false from decide_eq_false (by rw [hb4]; decide)] at HLK
            have HA : Hid (∃ N E r', (N, E, r') = RR ∧ N = 0 ∧ E = 23 ∧ r' = r) := hide ⟨0, 23, r, by rw [← unhide HRR]; unfold stepN; rw [if_neg (unhide HDD), if_neg (unhide HB), if_neg (unhide HB2), if_neg hb3, if_pos hb4], rfl, rfl, rfl⟩
            obtain ⟨ff, hff⟩ : ∃ ff, ff = findN s a p := ⟨_, rfl⟩
            rw [← hff] at HLK
            have HW := hide H
            clear H AG hd hb4 hfb hff
            go_enter Tryz.func90, Tryz.ntmps90
            go_wp2_with fail
            refine (unhide HI).mono ?_
            rintro e w1 ⟨rfl, rfl⟩
            go_wp2_with fail
            refine (unhide HLK).mono ?_
            rintro e w2 ⟨rfl, b2⟩
            have HB5 := hide b2
            clear b2
            go_wp2_with fail
            go_ret2
            obtain ⟨N, E, r', x1, rfl, rfl, rfl⟩ := unhide HA
            exact ⟨_, _, _, x1, rfl, hide ⟨(unhide HW).below (unhide HB5), grownS_of_below (unhide HB5)⟩⟩
          · rw [show isN s a p = true from decide_eq_true hb4] at HLK
            have HB4 := hide hb4
            have HIL := hide (fun W (hw : Wk W b q Y s nb n B r) => isLink_any hw.nd (findN s a p) (by omega))
            have HTH := hide (fun W (hw : Wk W b q Y s nb n B r) => through_any (m := m) hw AG hr a (findN s a p) h0 h1 hfb.1 hfb.2)
            have HSA : Hid (kd s (findN s a p) ≠ 3 ∨ f = false → RR = (findN s a p, 0, r)) := hide (fun h => by rw [← unhide HRR]; unfold stepN; rw [if_neg (unhide HDD), if_neg (unhide HB), if_neg (unhide HB2), if_neg hb3, if_neg hb4, if_pos h])
            have HSB : Hid (¬ (kd s (findN s a p) ≠ 3 ∨ f = false) → (if r = 0 then (0, 27, r) else goF s m a (datO (ndAt s.T (findN s a p))) (r - 1)) = RR) := hide (fun h => by rw [← unhide HRR]; unfold stepN; rw [if_neg (unhide HDD), if_neg (unhide HB), if_neg (unhide HB2), if_neg hb3, if_neg hb4, if_neg h])
            have HK : Hid (∀ g : Bool, decide (kd s (findN s a p) = 3) = g → (g = true ↔ kd s (findN s a p) = 3)) := hide (fun g hg => by rw [← hg, decide_eq_true_iff])
            obtain ⟨g, hg⟩ : ∃ g, g = decide (kd s (findN s a p) = 3) := ⟨_, rfl⟩
            have HKG := hide (unhide HK g hg.symm)
            rw [← hg] at HIL
            obtain ⟨ff, hff⟩ : ∃ ff, ff = findN s a p := ⟨_, rfl⟩
            rw [← hff] at HLK HIL HTH HSA HSB HKG
            have HW := hide H
            clear H AG hd hb4 hfb hff HK hg HB4 HB HB2 HB3
            cases f with
            | false =>
              go_enter Tryz.func90, Tryz.ntmps90
              go_wp2_with fail
              refine (unhide HI).mono ?_
              rintro e w1 ⟨rfl, rfl⟩
              go_wp2_with fail
              refine (unhide HLK).mono ?_
              rintro e w2 ⟨rfl, b2⟩
              have HB5 := hide b2
              clear b2
              go_wp2_with fail
              go_ret2
              exact ⟨_, _, _, (unhide HSA (by simp)).symm, rfl, hide ⟨(unhide HW).below (unhide HB5), grownS_of_below (unhide HB5)⟩⟩
            | true =>
              go_enter Tryz.func90, Tryz.ntmps90
              go_wp2_with fail
              refine (unhide HI).mono ?_
              rintro e w1 ⟨rfl, rfl⟩
              go_wp2_with fail
              refine (unhide HLK).mono ?_
              rintro e w2 ⟨rfl, b2⟩
              have HW2 := hide ((unhide HW).below b2)
              have HB5 := hide b2
              have c0' : w2.cell? ⟨b, 0, none⟩ = some (.pointer (some ⟨q, 0, none⟩)) := (unhide HW2).blk.cell 0 rfl
              have HIL2 := hide (unhide HIL w2 (unhide HW2))
              have HTH2 := hide (unhide HTH w2 (unhide HW2))
              clear b2 HIL HTH c0
              go_wp2_with fail
              refine (unhide HIL2).mono ?_
              rintro e w3 ⟨rfl, rfl⟩
              cases g with
              | false =>
                go_wp2_with fail
                go_ret2
                exact ⟨_, _, _, (unhide HSA (.inl (fun h => by have := (unhide HKG).2 h; cases this))).symm, rfl, hide ⟨unhide HW2, grownS_of_below (unhide HB5)⟩⟩
              | true =>
                have HSB2 := hide (unhide HSB (fun h => h.elim (fun h => h ((unhide HKG).1 rfl)) (fun h => by cases h)))
                rw [unhide HSB2] at HTH2
                go_wp2_with fail
                refine (unhide HTH2).mono ?_
                rintro e w4 ⟨N, E, r', x1, rfl, HX⟩
                have HX1 := hide x1
                clear x1
                go_wp2_with fail
                go_ret2
                exact ⟨N, E, r', unhide HX1, rfl, hide ⟨(unhide HX).1, (grownS_of_below (unhide HB5)).trans (unhide HX).2⟩⟩

end Go.Proofs.YtemologkibcdoaaGreatDoor

/- Directories (stage 13): along. -/
namespace Go.Proofs.YtemologkibcdoaaGreatDoor
open Go.RowKit Go.Maps

theorem split_parts (p : List UInt8) : Lib.splitB ⟨#[47]⟩ 0 (Lib.countB (BA p) ⟨#[47]⟩) (BA p) = (partsOf p).map BA := by
  have h := Lib.splitB_data ⟨#[47]⟩ 0 (Lib.countB (BA p) ⟨#[47]⟩) (BA p)
  have h2 : Lib.splitK (⟨#[47]⟩ : ByteArray).data.toList 0 (Lib.countB (BA p) ⟨#[47]⟩) (BA p).data.toList = partsOf p := parts_split p
  rw [h2] at h
  rw [← h, List.map_map]
  exact (List.map_id'' (fun x => BA_of x) _).symm
theorem split_any (p : List UInt8) (w : World) {B : Bas} (E : EnvB w B) (hp : p.length ≤ 100000) : Calls Tryz.prog 89 #[.string (BA p), .string ⟨#[47]⟩] w fun e w' => e = .returned (.slice (some ⟨w.heap.size, 0, none⟩) (partsOf p).length (partsOf p).length) ∧ w' = w.alloc (.cells ((partsOf p).map (fun t => Value.string (BA t))).toArray 9) := by
  obtain ⟨m, hm⟩ := E.maxLen
  have hl := Lib.splitB_all ⟨#[47]⟩ (by decide) 0 _ (BA p) rfl
  have h := Tryz.strings_Split (BA p) ⟨#[47]⟩ m w (by rw [BA_size]; omega) hm (by decide)
  rw [split_parts, List.length_map] at hl
  rw [split_parts, List.map_map, ← hl] at h
  exact h
theorem prefix_is (p : List UInt8) : Lib.hasPrefix p [47] = decide (p.head? = some 47) := by
  cases p with
  | nil => rfl
  | cons c l =>
    show List.isPrefixOf [47] (c :: l) = _
    by_cases h : c = 47
    · subst h; simp
    · simp [List.isPrefixOf, h]
      exact fun e => h e.symm
/-- How far along has come. -/
structure AlS (w wr : World) (b q : Nat) (Y : Nat → Prop) (s : NS) (nb n : Nat) (B : Bas) (m : Nat) (pb : Nat) (ps : List (List UInt8)) (f : Bool) (R : Int × Int × Nat) (j : Nat) (a : Int) (r : Nat) : Prop where
  wk : Wk wr b q Y s nb n B r
  le : r ≤ m
  row : Blk wr pb 9 (ps.map (fun t => Value.string (BA t))).toArray
  gr : GrownS w wr (fun k => k = b)
  res : loopN (goF s m) s f (ps.drop j) a r = R
  ne : pb ≠ b
theorem loop_cons (go : Int → List UInt8 → Nat → Int × Int × Nat) (s : NS) (f : Bool) (p : List UInt8) (ps : List (List UInt8)) (a : Int) (r : Nat) (g : Bool) (hg : g = (f || !ps.isEmpty)) : loopN go s f (p :: ps) a r = if (stepN go s a p g r).2.1 ≠ 0 then stepN go s a p g r else loopN go s f ps (stepN go s a p g r).1 (stepN go s a p g r).2.2 := by
  cases ps with
  | nil =>
    have : g = f := by rw [hg]; simp
    subst this
    show stepN go s a p g r = _
    by_cases h : (stepN go s a p g r).2.1 ≠ 0
    · rw [if_pos h]
    · rw [if_neg h]
      have h : (stepN go s a p g r).2.1 = 0 := by simpa using h
      show _ = ((stepN go s a p g r).1, (0 : Int), (stepN go s a p g r).2.2)
      rw [← h]
  | cons q ps =>
    have : g = true := by rw [hg]; simp
    subst this
    rfl
set_option maxRecDepth 20000 in
set_option maxHeartbeats 4000000 in
theorem along_step {b q nb n : Nat} {B : Bas} {m : Nat} {Y : Nat → Prop} {s : NS} (AG : ∀ k, m = k + 1 → AlgAt b q Y s nb n B k) : AlgAt b q Y s nb n B m := by
  intro w a p f r H hr h0 h1 hp
  generalize hRR : goesN s m a p f r = RR
  have HRR := hide hRR
  clear hRR
  have HEN : Hid (Wk w b q Y s nb n B r ∧ GrownS w w (fun k => k = b)) := hide ⟨H, grownS_of_below (Below.refl _ _)⟩
  have he := emp_eq p
  by_cases hb0 : p = []
  · rw [decide_eq_true hb0] at he
    have HA : Hid (RR = (0, 23, r)) := hide (by rw [← unhide HRR, goes_is, if_pos hb0])
    clear H AG hb0 HRR
    go_enter Tryz.func66, Tryz.ntmps66
    go_wp2_with fail
    go_ret2
    rw [unhide HA]
    exact ⟨rfl, HEN⟩
  · rw [decide_eq_false hb0] at he
    by_cases hb1 : 256 < p.length
    · have HA : Hid (RR = (0, 3, r)) := hide (by rw [← unhide HRR, goes_is, if_neg hb0, if_pos hb1])
      clear H AG hb0 HRR
      go_enter Tryz.func66, Tryz.ntmps66
      go_wp2_with fail
      go_ret2
      rw [unhide HA]
      exact ⟨rfl, HEN⟩
    · have hres : loopN (goF s m) s f (partsOf p) (if p.head? = some 47 then 1 else a) r = RR := by rw [← unhide HRR, goes_loop H.nd.ok.inv hb0 hb1]
      have HP := hide (Tryz.strings_HasPrefix (BA p) ⟨#[47]⟩ w)
      have HSP := hide (split_any p w H.nd.env hp)
      rw [show Lib.hasPrefix (BA p).data.toList (⟨#[47]⟩ : ByteArray).data.toList = decide (p.head? = some 47) from prefix_is p] at HP
      have hlen := parts_len p
      have hpl : (partsOf p).length ≤ 257 := by omega
      have hpe : ∀ t ∈ partsOf p, t.length ≤ 100000 := fun t ht => by have := hlen.2 t ht; omega
      have hnew : Blk (w.alloc (.cells ((partsOf p).map (fun t => Value.string (BA t))).toArray 9)) w.heap.size 9 ((partsOf p).map (fun t => Value.string (BA t))).toArray := Blk.new _ _ _
      have hbw : Below w.heap.size w (w.alloc (.cells ((partsOf p).map (fun t => Value.string (BA t))).toArray 9)) := (Below.refl _ w).alloc (Nat.le_refl _) _
      have hne : w.heap.size ≠ b := by have := H.blk.lt; omega
      obtain ⟨a0, ha0⟩ : ∃ a0, a0 = if p.head? = some 47 then 1 else a := ⟨_, rfl⟩
      have ha0b : 0 ≤ a0 ∧ a0 ≤ 1024 := by rw [ha0]; split <;> omega
      rw [← ha0] at hres
      have HST : Hid (AlS w (w.alloc (.cells ((partsOf p).map (fun t => Value.string (BA t))).toArray 9)) b q Y s nb n B m w.heap.size (partsOf p) f RR 0 a0 r) := hide ⟨H.below hbw, hr, hnew, grownS_of_below hbw, hres, hne⟩
      have HAG := hide AG
      have HOK := hide H.nd.ok
      obtain ⟨g0, hg0⟩ : ∃ g0, g0 = decide (p.head? = some 47) := ⟨_, rfl⟩
      have HA0 : Hid (∀ x : Int, (g0 = true → x = 1) → (g0 = false → x = a) → x = a0) := hide (fun x k1 k2 => by
        rw [ha0]
        by_cases hh : p.head? = some 47
        · rw [if_pos hh]; exact k1 (by rw [hg0, decide_eq_true hh])
        · rw [if_neg hh]; exact k2 (by rw [hg0, decide_eq_false hh]))
      rw [← hg0] at HP
      obtain ⟨ps, hps⟩ : ∃ ps, ps = partsOf p := ⟨_, rfl⟩
      rw [← hps] at HSP hpl hpe HST
      obtain ⟨len, hle⟩ : ∃ len, len = ps.length := ⟨_, rfl⟩
      rw [← hle] at HSP hpl
      have HPE := hide hpe
      have HLE := hide hle
      obtain ⟨W1, hW1⟩ : ∃ W1, W1 = w.alloc (.cells (ps.map (fun t => Value.string (BA t))).toArray 9) := ⟨_, rfl⟩
      rw [← hW1] at HST HSP
      obtain ⟨pb, hpb⟩ : ∃ pb, pb = w.heap.size := ⟨_, rfl⟩
      rw [← hpb] at HST HSP
      clear H AG hb0 HRR hres hlen hpe hnew hbw hne ha0 hg0 hps hle hW1 hpb HEN
      obtain ⟨STX, hSTX⟩ : ∃ STX : World → Nat → Int → Nat → Prop, STX = fun wr j a r => AlS w wr b q Y s nb n B m pb ps f RR j a r := ⟨_, rfl⟩
      have hX1 : ∀ wr j a r, STX wr j a r → AlS w wr b q Y s nb n B m pb ps f RR j a r := fun wr j a r h => by rw [hSTX] at h; exact h
      have hX2 : ∀ wr j a r, AlS w wr b q Y s nb n B m pb ps f RR j a r → STX wr j a r := fun wr j a r h => by rw [hSTX]; exact h
      have HX1 := hide hX1
      have HX2 := hide hX2
      have HS0 := hide (hX2 _ _ _ _ (unhide HST))
      clear hSTX hX1 hX2 HST
      obtain ⟨x0, hx0⟩ : ∃ x0 : Int, x0 = if g0 = true then 1 else a := ⟨_, rfl⟩
      have HXA : Hid (x0 = a0) := hide (unhide HA0 x0 (fun e => by rw [hx0, if_pos e]) (fun e => by rw [hx0, e]; rfl))
      go_enter Tryz.func66, Tryz.ntmps66
      go_wp2_with fail
      refine (unhide HP).mono ?_
      rintro e w1 ⟨rfl, hw1⟩
      have hw2 := hw1.symm
      subst hw2
      clear hw1
      cases g0 with
      | true =>
        rw [if_pos rfl] at hx0
        subst hx0
        go_wp2_with fail
        refine (unhide HSP).mono ?_
        rintro e w2 ⟨rfl, rfl⟩
        have HXA2 : Hid (a0 = 1) := hide (unhide HXA).symm
        clear HP HSP HA0 HXA
        go_wp2_with fail
        go_loopw [10, 28] (fun at' i wr => ∃ (j : Nat) (c : Int) (r' : Nat), at' = .int .i64 c ∧ i = .int .i64 (j : Int) ∧ j ≤ len ∧ 0 ≤ c ∧ c ≤ 1024 ∧ Hid (STX wr j c r')) (fun _ i _ => len - (intOf i).toNat)
        case atStart => exact ⟨0, 1, r, rfl, rfl, Nat.zero_le _, by decide, by decide, by rw [← unhide HXA2]; exact HS0⟩
        case round =>
          clear HS0 HXA2
          obtain ⟨j, c, r', rfl, rfl, hjl, hc0, hc1, HT⟩ := hrel
          have hS := unhide HX1 _ _ _ _ (unhide HT)
          by_cases hlt : j < len
          · have hk1 : (j : Int) < (len : Int) := by omega
            have hk0 : (0 : Int) ≤ (j : Int) := by omega
            obtain ⟨t, ht⟩ : ∃ t, ps[j]? = some t := ⟨_, List.getElem?_eq_getElem (by have := unhide HLE; omega)⟩
            have cj : wr.cell? ⟨pb, j, none⟩ = some (.string (BA t)) := hS.row.cell j (by rw [List.getElem?_toArray, List.getElem?_map, ht]; rfl)
            have htl : t.length ≤ 100000 := unhide HPE t (List.mem_of_getElem? ht)
            have hdr : ps.drop j = t :: ps.drop (j + 1) := by
              have hj : j < ps.length := by have := unhide HLE; omega
              rw [List.drop_eq_getElem_cons hj]
              rw [List.getElem?_eq_getElem hj] at ht
              rw [Option.some.inj ht]
            obtain ⟨g, hg⟩ : ∃ g, g = (f || decide ((j : Int) < (len : Int) - 1)) := ⟨_, rfl⟩
            have hgg : g = (f || !(ps.drop (j + 1)).isEmpty) := by
              rw [hg]
              congr 1
              have hl := unhide HLE
              by_cases h2 : j + 1 < len
              · rw [decide_eq_true (by omega)]
                cases hh : ps.drop (j + 1) with
                | nil => rw [List.drop_eq_nil_iff] at hh; omega
                | cons => rfl
              · rw [decide_eq_false (by omega), List.drop_eq_nil_of_le (by omega)]
                rfl
            have hlc := loop_cons (goF s m) s f t (ps.drop (j + 1)) c r' g hgg
            rw [← hdr, hS.res] at hlc
            have HLC := hide hlc
            have HST := hide (step_any (m := m) hS.wk (unhide HAG) hS.le c t g hc0 hc1 htl)
            have HSS := hide hS
            have hwr : IntKind.i64.wrap ((len : Int) - 1) = (len : Int) - 1 := by
              simp [IntKind.wrap, IntKind.signed, IntKind.bits]
              omega
            clear hlc hS HT hdr hgg ht htl
            cases f with
            | true =>
              have hg' : g = true := by rw [hg]; rfl
              subst hg'
              clear hg
              go_wp2_with fail
              refine (unhide HST).mono ?_
              rintro e w3 ⟨N, E, r2, x1, rfl, HY⟩
              have HX3 := hide x1
              have hbn := step_bnd (unhide HOK) (goF_bnd (unhide HOK) m) t true r' hc0 hc1
              rw [← x1] at hbn
              have hbn1 : 0 ≤ N ∧ N ≤ 1024 := hbn.1
              have hbn2 : r2 ≤ r' := hbn.2
              have hlc := unhide HLC
              rw [← x1] at hlc
              have HLC2 := hide hlc
              have HZR : Hid (E ≠ 0 → N = 0) := hide (fun h => by
                have := step_zer (s := s) (goF_zer s m) c t true r' (by rw [← x1]; exact h)
                rw [← x1] at this
                exact this)
              clear x1 hbn hlc HLC
              by_cases hE : E = 0
              · subst hE
                have HN : Hid (STX w3 (j + 1) N r2) := hide (unhide HX2 _ _ _ _ ⟨(unhide HY).1, Nat.le_trans hbn2 (unhide HSS).le, (unhide HSS).row.grownS (unhide HY).2 (unhide HSS).ne, (unhide HSS).gr.trans (unhide HY).2, by
                  have := unhide HLC2
                  simp at this
                  exact this.symm, (unhide HSS).ne⟩)
                go_wp2_with fail
                go_roundw
                case rel => exact ⟨j + 1, N, r2, rfl, by go_num, by omega, hbn1.1, hbn1.2, HN⟩
                case measure => simp [intOf]; omega
              · have HA : Hid (RR = (N, E, r2)) := hide (by
                  have := unhide HLC2
                  simp [hE] at this
                  exact this)
                have hN := unhide HZR hE
                subst hN
                have HZ : Hid (Wk w3 b q Y s nb n B r2 ∧ GrownS w w3 (fun k => k = b)) := hide ⟨(unhide HY).1, (unhide HSS).gr.trans (unhide HY).2⟩
                go_wp2_with fail
                go_ret2
                rw [unhide HA]
                exact ⟨rfl, HZ⟩
            | false =>
              have hg' : decide ((j : Int) < (len : Int) - 1) = g := by rw [hg]; rfl
              clear hg
              go_wp2_with fail
              refine (unhide HST).mono ?_
              rintro e w3 ⟨N, E, r2, x1, rfl, HY⟩
              have HX3 := hide x1
              have hbn := step_bnd (unhide HOK) (goF_bnd (unhide HOK) m) t g r' hc0 hc1
              rw [← x1] at hbn
              have hbn1 : 0 ≤ N ∧ N ≤ 1024 := hbn.1
              have hbn2 : r2 ≤ r' := hbn.2
              have hlc := unhide HLC
              rw [← x1] at hlc
              have HLC2 := hide hlc
              have HZR : Hid (E ≠ 0 → N = 0) := hide (fun h => by
                have := step_zer (s := s) (goF_zer s m) c t g r' (by rw [← x1]; exact h)
                rw [← x1] at this
                exact this)
              clear x1 hbn hlc HLC
              by_cases hE : E = 0
              · subst hE
                have HN : Hid (STX w3 (j + 1) N r2) := hide (unhide HX2 _ _ _ _ ⟨(unhide HY).1, Nat.le_trans hbn2 (unhide HSS).le, (unhide HSS).row.grownS (unhide HY).2 (unhide HSS).ne, (unhide HSS).gr.trans (unhide HY).2, by
                  have := unhide HLC2
                  simp at this
                  exact this.symm, (unhide HSS).ne⟩)
                go_wp2_with fail
                go_roundw
                case rel => exact ⟨j + 1, N, r2, rfl, by go_num, by omega, hbn1.1, hbn1.2, HN⟩
                case measure => simp [intOf]; omega
              · have HA : Hid (RR = (N, E, r2)) := hide (by
                  have := unhide HLC2
                  simp [hE] at this
                  exact this)
                have hN := unhide HZR hE
                subst hN
                have HZ : Hid (Wk w3 b q Y s nb n B r2 ∧ GrownS w w3 (fun k => k = b)) := hide ⟨(unhide HY).1, (unhide HSS).gr.trans (unhide HY).2⟩
                go_wp2_with fail
                go_ret2
                rw [unhide HA]
                exact ⟨rfl, HZ⟩
          · have hk1 : ¬ (j : Int) < (len : Int) := by omega
            have HA : Hid (RR = (c, 0, r')) := hide (by
              rw [← hS.res, List.drop_eq_nil_of_le (by have := unhide HLE; omega)]
              rfl)
            have HZ : Hid (Wk wr b q Y s nb n B r' ∧ GrownS w wr (fun k => k = b)) := hide ⟨hS.wk, hS.gr⟩
            clear hS HT
            go_wp2_with fail
            go_ret2
            rw [unhide HA]
            exact ⟨rfl, HZ⟩
      | false =>
        rw [if_neg (by decide)] at hx0
        subst hx0
        go_wp2_with fail
        refine (unhide HSP).mono ?_
        rintro e w2 ⟨rfl, rfl⟩
        have HXA2 : Hid (a0 = x0) := hide (unhide HXA).symm
        clear HP HSP HA0 HXA
        go_wp2_with fail
        go_loopw [10, 28] (fun at' i wr => ∃ (j : Nat) (c : Int) (r' : Nat), at' = .int .i64 c ∧ i = .int .i64 (j : Int) ∧ j ≤ len ∧ 0 ≤ c ∧ c ≤ 1024 ∧ Hid (STX wr j c r')) (fun _ i _ => len - (intOf i).toNat)
        case atStart => exact ⟨0, _, r, rfl, rfl, Nat.zero_le _, h0, h1, by rw [← unhide HXA2]; exact HS0⟩
        case round =>
          clear HS0 HXA2
          obtain ⟨j, c, r', rfl, rfl, hjl, hc0, hc1, HT⟩ := hrel
          have hS := unhide HX1 _ _ _ _ (unhide HT)
          by_cases hlt : j < len
          · have hk1 : (j : Int) < (len : Int) := by omega
            have hk0 : (0 : Int) ≤ (j : Int) := by omega
            obtain ⟨t, ht⟩ : ∃ t, ps[j]? = some t := ⟨_, List.getElem?_eq_getElem (by have := unhide HLE; omega)⟩
            have cj : wr.cell? ⟨pb, j, none⟩ = some (.string (BA t)) := hS.row.cell j (by rw [List.getElem?_toArray, List.getElem?_map, ht]; rfl)
            have htl : t.length ≤ 100000 := unhide HPE t (List.mem_of_getElem? ht)
            have hdr : ps.drop j = t :: ps.drop (j + 1) := by
              have hj : j < ps.length := by have := unhide HLE; omega
              rw [List.drop_eq_getElem_cons hj]
              rw [List.getElem?_eq_getElem hj] at ht
              rw [Option.some.inj ht]
            obtain ⟨g, hg⟩ : ∃ g, g = (f || decide ((j : Int) < (len : Int) - 1)) := ⟨_, rfl⟩
            have hgg : g = (f || !(ps.drop (j + 1)).isEmpty) := by
              rw [hg]
              congr 1
              have hl := unhide HLE
              by_cases h2 : j + 1 < len
              · rw [decide_eq_true (by omega)]
                cases hh : ps.drop (j + 1) with
                | nil => rw [List.drop_eq_nil_iff] at hh; omega
                | cons => rfl
              · rw [decide_eq_false (by omega), List.drop_eq_nil_of_le (by omega)]
                rfl
            have hlc := loop_cons (goF s m) s f t (ps.drop (j + 1)) c r' g hgg
            rw [← hdr, hS.res] at hlc
            have HLC := hide hlc
            have HST := hide (step_any (m := m) hS.wk (unhide HAG) hS.le c t g hc0 hc1 htl)
            have HSS := hide hS
            have hwr : IntKind.i64.wrap ((len : Int) - 1) = (len : Int) - 1 := by
              simp [IntKind.wrap, IntKind.signed, IntKind.bits]
              omega
            clear hlc hS HT hdr hgg ht htl
            cases f with
            | true =>
              have hg' : g = true := by rw [hg]; rfl
              subst hg'
              clear hg
              go_wp2_with fail
              refine (unhide HST).mono ?_
              rintro e w3 ⟨N, E, r2, x1, rfl, HY⟩
              have HX3 := hide x1
              have hbn := step_bnd (unhide HOK) (goF_bnd (unhide HOK) m) t true r' hc0 hc1
              rw [← x1] at hbn
              have hbn1 : 0 ≤ N ∧ N ≤ 1024 := hbn.1
              have hbn2 : r2 ≤ r' := hbn.2
              have hlc := unhide HLC
              rw [← x1] at hlc
              have HLC2 := hide hlc
              have HZR : Hid (E ≠ 0 → N = 0) := hide (fun h => by
                have := step_zer (s := s) (goF_zer s m) c t true r' (by rw [← x1]; exact h)
                rw [← x1] at this
                exact this)
              clear x1 hbn hlc HLC
              by_cases hE : E = 0
              · subst hE
                have HN : Hid (STX w3 (j + 1) N r2) := hide (unhide HX2 _ _ _ _ ⟨(unhide HY).1, Nat.le_trans hbn2 (unhide HSS).le, (unhide HSS).row.grownS (unhide HY).2 (unhide HSS).ne, (unhide HSS).gr.trans (unhide HY).2, by
                  have := unhide HLC2
                  simp at this
                  exact this.symm, (unhide HSS).ne⟩)
                go_wp2_with fail
                go_roundw
                case rel => exact ⟨j + 1, N, r2, rfl, by go_num, by omega, hbn1.1, hbn1.2, HN⟩
                case measure => simp [intOf]; omega
              · have HA : Hid (RR = (N, E, r2)) := hide (by
                  have := unhide HLC2
                  simp [hE] at this
                  exact this)
                have hN := unhide HZR hE
                subst hN
                have HZ : Hid (Wk w3 b q Y s nb n B r2 ∧ GrownS w w3 (fun k => k = b)) := hide ⟨(unhide HY).1, (unhide HSS).gr.trans (unhide HY).2⟩
                go_wp2_with fail
                go_ret2
                rw [unhide HA]
                exact ⟨rfl, HZ⟩
            | false =>
              have hg' : decide ((j : Int) < (len : Int) - 1) = g := by rw [hg]; rfl
              clear hg
              go_wp2_with fail
              refine (unhide HST).mono ?_
              rintro e w3 ⟨N, E, r2, x1, rfl, HY⟩
              have HX3 := hide x1
              have hbn := step_bnd (unhide HOK) (goF_bnd (unhide HOK) m) t g r' hc0 hc1
              rw [← x1] at hbn
              have hbn1 : 0 ≤ N ∧ N ≤ 1024 := hbn.1
              have hbn2 : r2 ≤ r' := hbn.2
              have hlc := unhide HLC
              rw [← x1] at hlc
              have HLC2 := hide hlc
              have HZR : Hid (E ≠ 0 → N = 0) := hide (fun h => by
                have := step_zer (s := s) (goF_zer s m) c t g r' (by rw [← x1]; exact h)
                rw [← x1] at this
                exact this)
              clear x1 hbn hlc HLC
              by_cases hE : E = 0
              · subst hE
                have HN : Hid (STX w3 (j + 1) N r2) := hide (unhide HX2 _ _ _ _ ⟨(unhide HY).1, Nat.le_trans hbn2 (unhide HSS).le, (unhide HSS).row.grownS (unhide HY).2 (unhide HSS).ne, (unhide HSS).gr.trans (unhide HY).2, by
                  have := unhide HLC2
                  simp at this
                  exact this.symm, (unhide HSS).ne⟩)
                go_wp2_with fail
                go_roundw
                case rel => exact ⟨j + 1, N, r2, rfl, by go_num, by omega, hbn1.1, hbn1.2, HN⟩
                case measure => simp [intOf]; omega
              · have HA : Hid (RR = (N, E, r2)) := hide (by
                  have := unhide HLC2
                  simp [hE] at this
                  exact this)
                have hN := unhide HZR hE
                subst hN
                have HZ : Hid (Wk w3 b q Y s nb n B r2 ∧ GrownS w w3 (fun k => k = b)) := hide ⟨(unhide HY).1, (unhide HSS).gr.trans (unhide HY).2⟩
                go_wp2_with fail
                go_ret2
                rw [unhide HA]
                exact ⟨rfl, HZ⟩
          · have hk1 : ¬ (j : Int) < (len : Int) := by omega
            have HA : Hid (RR = (c, 0, r')) := hide (by
              rw [← hS.res, List.drop_eq_nil_of_le (by have := unhide HLE; omega)]
              rfl)
            have HZ : Hid (Wk wr b q Y s nb n B r' ∧ GrownS w wr (fun k => k = b)) := hide ⟨hS.wk, hS.gr⟩
            clear hS HT
            go_wp2_with fail
            go_ret2
            rw [unhide HA]
            exact ⟨rfl, HZ⟩
theorem along_any {b q nb n : Nat} {B : Bas} {Y : Nat → Prop} {s : NS} : ∀ m, AlgAt b q Y s nb n B m
  | 0 => along_step (fun k h => by omega)
  | m + 1 => along_step (fun k h => by
    have : k = m := by omega
    subst this
    exact along_any k)

end Go.Proofs.YtemologkibcdoaaGreatDoor

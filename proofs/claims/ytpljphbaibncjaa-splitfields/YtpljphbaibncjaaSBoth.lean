/-
  SplitFields: which fields pieces are, and what they are as one.
-/
import Derived.Test.YtpljphbaibncjaaSWhole
import Derived.Test.YtpljphbaibncjaaSRef3
namespace Go.Proofs.Ytpljphbaibncjaa
open Go.RowKit

theorem byte_each (ifs : List UInt8) (M : Nat) (s : SS) (c : UInt8) (h : ∀ x ∈ s.out, x.length ≤ M) (hm : s.made.length ≤ M) : ∀ x ∈ (byteS ifs s c).out, x.length ≤ M := by
  have he : ∀ x ∈ s.out ++ [s.made], x.length ≤ M := fun x hx => by
    rcases List.mem_append.1 hx with hx | hx
    · exact h x hx
    · simp at hx; subst hx; exact hm
  unfold byteS softS hardS onS offS endS addS
  repeat' split
  all_goals first | exact h | exact he
/-- No field is longer than all that there was. -/
theorem out_each (ifs : List UInt8) : ∀ (t : List UInt8) (s : SS) (M : Nat), (∀ x ∈ s.out, x.length ≤ M) → s.made.length + t.length ≤ M → (∀ x ∈ (t.foldl (byteS ifs) s).out, x.length ≤ M) ∧ (t.foldl (byteS ifs) s).made.length ≤ M
  | [], s, M, h, hm => ⟨h, by simpa using hm⟩
  | c :: t, s, M, h, hm => by
    rw [List.length_cons] at hm
    refine out_each ifs t (byteS ifs s c) M (byte_each ifs M s c h (by omega)) ?_
    have : (byteS ifs s c).made.length ≤ s.made.length + 1 := by
      unfold byteS softS hardS onS offS endS addS
      repeat' split
      all_goals simp [qt]
    omega
theorem run_each (ifs : List UInt8) (M : Nat) : ∀ (l : List Pc) (s : SS) (K : Nat), (∀ p ∈ l, p.text.length ≤ M) → (∀ x ∈ s.out, x.length ≤ K) → s.made.length + l.length * M ≤ K → (∀ x ∈ (l.foldl (pieceS ifs) s).out, x.length ≤ K) ∧ (l.foldl (pieceS ifs) s).made.length ≤ K
  | [], s, K, _, h, hm => ⟨h, by simpa using hm⟩
  | p :: l, s, K, hp, h, hm => by
    rw [List.length_cons, Nat.add_mul, Nat.one_mul] at hm
    have h1 := hp p (by simp)
    have each : (∀ x ∈ (pieceS ifs s p).out, x.length ≤ K) ∧ (pieceS ifs s p).made.length ≤ s.made.length + M := by
      unfold pieceS
      split
      · unfold offS closeS endS
        split
        · refine ⟨fun x hx => ?_, by simp⟩
          rcases List.mem_append.1 hx with hx | hx
          · exact h x hx
          · simp at hx; subst hx; omega
        · exact ⟨h, by simp⟩
      · split
        · exact ⟨h, by simp [addS, qt]; omega⟩
        · refine ⟨(out_each ifs p.text s K h (by omega)).1, ?_⟩
          have h2 : ∀ (t : List UInt8) (s : SS), (t.foldl (byteS ifs) s).made.length ≤ s.made.length + t.length := by
            intro t
            induction t with
            | nil => intro s; simp
            | cons c t ih =>
              intro s
              have h3 := ih (byteS ifs s c)
              have h4 : (byteS ifs s c).made.length ≤ s.made.length + 1 := by
                unfold byteS softS hardS onS offS endS addS
                repeat' split
                all_goals simp [qt]
              rw [List.foldl_cons, List.length_cons]
              omega
          have h5 := h2 p.text s
          omega
    exact run_each ifs M l _ K (fun x hx => hp x (by simp [hx])) each.1 (by omega)
theorem fields_each (ifs : List UInt8) (l : List Pc) (M : Nat) (hp : ∀ p ∈ l, p.text.length ≤ M) : ∀ x ∈ fieldsL ifs l, x.length ≤ l.length * M := by
  obtain ⟨h1, h2⟩ := run_each ifs M l ss0 (l.length * M) hp (fun x hx => by simp [ss0] at hx) (by simp [ss0])
  unfold fieldsL runS closeS
  split
  · intro x hx
    rcases List.mem_append.1 hx with hx | hx
    · exact h1 x hx
    · simp at hx; subst hx; exact h2
  · exact h1

set_option maxRecDepth 100000 in
set_option maxHeartbeats 8000000 in
theorem both_walk (v : Value) (L : List Pc) (ifs : List UInt8) (w : World) (h : PRow w v L) : Calls Try.prog 3 #[v, .string (BA ifs)] w fun e w' => e = .returned (.bool true) ∧ Below w.heap.size w w' := by
  have HAW : Hid (∀ W, Below w.heap.size w W → Calls Try.prog 9 #[] W fun e w' => e = .returned (.bool true) ∧ Below w.heap.size w w' ∧ Below W.heap.size W w') := hide (fun W hW => (awake_any W).mono (fun e w' ⟨h1, h2⟩ => ⟨h1, hW.trans (h2.mono hW.size), h2⟩))
  have HFW := hide (few_any v L w h)
  have HRW := hide h
  cases hfw : fewB L with
  | false =>
    rw [hfw] at HFW
    clear hfw
    go_enter Try.func3, Try.ntmps3
    go_wp2_with fail
    refine (unhide HFW).mono ?_
    rintro e w1 ⟨rfl, hw1⟩
    rw [show w1 = w from hw1]
    clear hw1
    go_wp2_with fail
    refine (unhide HAW _ (Below.refl _ _)).mono ?_
    rintro e w2 ⟨rfl, b2, _⟩
    have HB2 := hide b2
    clear b2
    go_wp2
    go_ret
    exact ⟨rfl, unhide HB2⟩
  | true =>
    rw [hfw] at HFW
    have HFI := hide (few_is hfw)
    clear hfw
    by_cases hi : ifs.length ≤ 100
    · have HF1 := hide (fields_any v L ifs w 100 h (by omega) (unhide HFI).2 (by have := (unhide HFI).1; omega))
      have HFN : Hid ((fieldsL ifs L).length ≤ 4000) := hide (by
        have h1 := sizS_run ifs 100 L ss0 (unhide HFI).2
        have h2 : L.length * (100 + 1) ≤ 30 * 101 := Nat.mul_le_mul_right _ (unhide HFI).1
        have h3 := sizS_close (runS ifs L)
        have h5 : (fieldsL ifs L).length ≤ sizS (closeS (runS ifs L)) := by unfold sizS fieldsL; omega
        have h6 : sizS ss0 = 0 := rfl
        unfold runS at h3 h5
        omega)
      have HFE : Hid (∀ x ∈ fieldsL ifs L, x.length ≤ 4000) := hide (fun x hx => by
        have h1 := fields_each ifs L 100 (unhide HFI).2 x hx
        have h2 : L.length * 100 ≤ 30 * 100 := Nat.mul_le_mul_right _ (unhide HFI).1
        omega)
      have HFL : Hid ((oneL L).length ≤ 4000) := hide (by
        have h3 := one_len 100 L (unhide HFI).2
        have h4 : L.length * (100 + 1) ≤ 30 * 101 := Nat.mul_le_mul_right _ (unhide HFI).1
        omega)
      have HPC : Hid (∀ W, Below w.heap.size w W → Calls Try.prog 13 #[v] W fun e w' => ∃ v', e = .returned v' ∧ Below W.heap.size W w' ∧ PRow w' v' L) := hide (fun W hW => pieces_any v L W (h.below hW) (by have := (unhide HFI).1; omega))
      have HOP : Hid (∀ W, Below w.heap.size w W → Calls Try.prog 14 #[v] W fun e w' => ∃ q, e = .returned (.agg #[.string (BA (ftx (oneL L))), q]) ∧ Below W.heap.size W w' ∧ QRow w' q (fqs (oneL L))) := hide (fun W hW => one_any v L W 100 (h.below hW) (unhide HFI).2 (by have := (unhide HFI).1; omega))
      obtain ⟨a0, n0, c0, rfl⟩ : ∃ a n c, v = .slice a n c := by
        obtain ⟨a, c, e, _⟩ := h
        exact ⟨a, _, c, e⟩
      clear h
      go_enter Try.func3, Try.ntmps3
      go_wp2_with fail
      refine (unhide HFW).mono ?_
      rintro e w1 ⟨rfl, hw1⟩
      rw [show w1 = w from hw1]
      clear hw1
      go_wp2_with fail
      refine (unhide HF1).mono ?_
      rintro e w1 ⟨u1, rfl, b1, f1⟩
      have HB1 := hide b1
      have HP1 := hide (plain_any u1 _ w1 f1 (by have := unhide HFN; omega))
      clear b1 f1
      go_wp2_with fail
      refine (unhide HP1).mono ?_
      rintro e w2 ⟨u2, rfl, b2, f2⟩
      have HA2 := hide f2
      have HB2 := hide ((unhide HB1).trans (b2.mono (unhide HB1).size))
      clear b2 f2
      go_wp2_with fail
      refine (unhide HPC _ (unhide HB2)).mono ?_
      rintro e w3 ⟨u3, rfl, b3, p3⟩
      have HA3 := hide ((unhide HA2).below b3)
      have HB3 := hide ((unhide HB2).trans (b3.mono (unhide HB2).size))
      have HR3 := hide (rfields_any u3 L ifs w3 100 p3 (by omega) (unhide HFI).2 (by have := (unhide HFI).1; omega))
      clear b3 p3
      go_wp2_with fail
      refine (unhide HR3).mono ?_
      rintro e w4 ⟨u4, rfl, b4, f4⟩
      have HA4 := hide ((unhide HA3).below b4)
      have HD4 := hide f4
      have HB4 := hide ((unhide HB3).trans (b4.mono (unhide HB3).size))
      clear b4 f4
      go_wp2_with fail
      refine (unhide HOP _ (unhide HB4)).mono ?_
      rintro e w5 ⟨q5, rfl, b5, hq5⟩
      obtain ⟨qa5, qn5, qc5, rfl⟩ := hq5.slice
      have HQ5 := hide hq5
      have HA5 := hide ((unhide HA4).below b5)
      have HD5 := hide ((unhide HD4).below b5)
      have HB5 := hide ((unhide HB4).trans (b5.mono (unhide HB4).size))
      have HP5 := hide (plain_one _ (oneL L) _ (frow_one w5 (oneL L) _ (unhide HQ5)))
      clear b5 hq5
      go_wp2_with fail
      refine (unhide HP5).mono ?_
      rintro e w6 ⟨g, c6, q6, rfl, hg6, x0, x1, hq6, b6⟩
      obtain ⟨qa, qn, qc, rfl⟩ := hq6.slice
      have b6' : Below w5.heap.size w5 w6 := ((Below.refl _ w5).alloc (Nat.le_refl _) _).trans (b6.mono (by simp))
      have HA6 := hide ((unhide HA5).below b6')
      have HD6 := hide ((unhide HD5).below b6')
      have HBW6 := hide ((unhide HB5).trans (b6'.mono (unhide HB5).size))
      have HQF := hide hq6
      obtain ⟨F, hF⟩ : ∃ F, F = oneL L := ⟨_, rfl⟩
      rw [← hF] at HQF x0 HFL
      have HFF := hide hF
      have HZF : Hid (∀ W, Below w6.heap.size w6 W → W.cell? ⟨g, 0, none⟩ = some (.string (BA (ftx F))) ∧ W.cell? ⟨g, 1, none⟩ = some (.slice qa qn qc)) := hide (fun W hW => ⟨(hW.cell (p := ⟨g, 0, none⟩) hg6).trans x0, (hW.cell (p := ⟨g, 1, none⟩) hg6).trans x1⟩)
      have HBW : Hid (∀ W, Below w6.heap.size w6 W → Below w.heap.size w W) := hide (fun W hW => (unhide HBW6).trans (hW.mono (unhide HBW6).size))
      have HAL : Hid (∀ W, Below w6.heap.size w6 W → Calls Try.prog 15 #[u2, u4] W fun e w' => e = .returned (.bool true) ∧ Below W.heap.size W w') := hide (fun W hW => rall_any u2 u4 _ W ((unhide HA6).below hW) ((unhide HD6).below hW) (by have := unhide HFN; omega) (fun x hx => by have := unhide HFE x hx; omega))
      have HON : Hid (∀ W u, PRow W u L → Calls Try.prog 17 #[u] W fun e w' => ∃ q, e = .returned (.agg #[.string (BA (ftx F)), q]) ∧ Below W.heap.size W w' ∧ QRow w' q (fqs F)) := hide (fun W u hu => by rw [hF]; exact rone_any u L W 100 hu (unhide HFI).2 (by have := (unhide HFI).1; omega))
      have HSM : Hid (∀ W q1 q2, QRow W q1 (fqs F) → QRow W q2 (fqs F) → Calls Try.prog 16 #[.agg #[.string (BA (ftx F)), q1], .agg #[.string (BA (ftx F)), q2]] W fun e w' => e = .returned (.bool true) ∧ Below W.heap.size W w') := hide (fun W q1 q2 h1 h2 => same_any F q1 q2 W h1 h2 (by have := unhide HFL; omega))
      have HB6 := hide (below_drew w6 1)
      have HZ6 := hide (unhide HZF _ (below_drew w6 1))
      clear hF hg6 x0 x1 hq6 b6 b6'
      go_wp2_with fail
      refine wp_region_held_drew (S := fun w' => w'.cell? ⟨g, 0, none⟩ = some (.string (BA (ftx F))) ∧ w'.cell? ⟨g, 1, none⟩ = some (.slice qa qn qc)) (by kernel_rfl) (by exact unhide HZ6) (fun hHeld => ?_)
      refine wpAnyH_take (i := 0) (oi := { dst := some 29, op := Op.move (Operand.tmp 5), type := 25, pos := "law.go:56", after := #[], guard := none }) (v := ?_) rfl (by kernel_rfl) (by kernel_rfl) (by kernel_rfl) (fun _ _ _ h => h) (Or.inl ⟨by rfl, ?_⟩) (by assumption) ?_
      rotate_left
      · intro w hSw; obtain ⟨s0, s1⟩ := hSw; go_simp; (try with_reducible rfl)
      simp only [Act.put, List.setIfInBounds_toArray, List.set_cons_zero, List.set_cons_succ]
      refine wpAnyH_take (i := 1) (oi := { dst := some 30, op := Op.move (Operand.tmp 6), type := 25, pos := "law.go:56", after := #[], guard := none }) (v := ?_) rfl (by kernel_rfl) (by kernel_rfl) (by kernel_rfl) (fun _ _ _ h => h) (Or.inl ⟨by rfl, ?_⟩) (by assumption) ?_
      rotate_left
      · intro w hSw; obtain ⟨s0, s1⟩ := hSw; go_simp; (try with_reducible rfl)
      simp only [Act.put, List.setIfInBounds_toArray, List.set_cons_zero, List.set_cons_succ]
      refine wpAnyH_ready (rs := [2]) (by kernel_rfl) (by simp) ?_
      refine AllReadyH.cons (o := { dst := some 31, op := Op.call { callee := Callee.value (Operand.func 15), args := #[Operand.tmp 29, Operand.tmp 30], argTypes := #[25, 25] }, type := 4, pos := "law.go:56", after := #[{ on := 0, ground := Ground.data }, { on := 1, ground := Ground.data }], guard := none }) rfl (fun KK hKK => ?_) AllReadyH.nil
      go_simp
      refine (unhide HAL _ (unhide HB6)).mono ?_
      rintro e w7 ⟨rfl, b7⟩
      have HB7 := hide ((unhide HB6).trans (b7.mono (unhide HB6).size))
      have HZ7 := hide (unhide HZF _ (unhide HB7))
      clear b7
      refine hKK.out _ _ (by exact unhide HZ7) (fun hHeld => ?_)
      clear hKK KK
      try simp only [Act.put, List.setIfInBounds_toArray, List.set_cons_zero, List.set_cons_succ]
      refine wpAnyH_take (i := 3) (oi := { dst := some 32, op := Op.move (Operand.tmp 31), type := 4, pos := "law.go:56", after := #[{ on := 2, ground := Ground.data }, { on := 2, ground := Ground.chain }], guard := none }) (v := ?_) rfl (by kernel_rfl) (by kernel_rfl) (by kernel_rfl) (fun _ _ _ h => h) (Or.inl ⟨by rfl, ?_⟩) (by assumption) ?_
      rotate_left
      · intro w hSw; obtain ⟨s0, s1⟩ := hSw; go_simp; (try with_reducible rfl)
      simp only [Act.put, List.setIfInBounds_toArray, List.set_cons_zero, List.set_cons_succ]
      refine wpAnyH_take (i := 4) (oi := { dst := some 33, op := Op.move (Operand.tmp 7), type := 25, pos := "law.go:56", after := #[{ on := 3, ground := Ground.guard }], guard := some (3, true) }) (v := ?_) rfl (by kernel_rfl) (by kernel_rfl) (by kernel_rfl) (fun _ _ _ h => h) (Or.inl ⟨by rfl, ?_⟩) (by assumption) ?_
      rotate_left
      · intro w hSw; obtain ⟨s0, s1⟩ := hSw; go_simp; (try with_reducible rfl)
      simp only [Act.put, List.setIfInBounds_toArray, List.set_cons_zero, List.set_cons_succ]
      refine wpAnyH_take (i := 5) (oi := { dst := some 34, op := Op.indexAddr 25 (Operand.tmp 33) (Operand.const (Value.int IntKind.i64 0)), type := 0, pos := "law.go:56", after := #[{ on := 4, ground := Ground.data }, { on := 3, ground := Ground.guard }], guard := some (3, true) }) (v := ?_) rfl (by kernel_rfl) (by kernel_rfl) (by kernel_rfl) (fun _ _ _ h => h) (Or.inl ⟨by rfl, ?_⟩) (by assumption) ?_
      rotate_left
      · intro w hSw; obtain ⟨s0, s1⟩ := hSw; go_simp; (try with_reducible rfl)
      simp only [Act.put, List.setIfInBounds_toArray, List.set_cons_zero, List.set_cons_succ]
      refine wpAnyH_take (i := 6) (oi := { dst := some 35, op := Op.load 38 (Operand.tmp 34), type := 38, pos := "law.go:56", after := #[{ on := 5, ground := Ground.data }, { on := 3, ground := Ground.guard }], guard := some (3, true) }) (v := ?_) rfl (by kernel_rfl) (by kernel_rfl) (by kernel_rfl) (fun _ _ _ h => h) (Or.inl ⟨by rfl, ?_⟩) (by assumption) ?_
      rotate_left
      · intro w hSw; obtain ⟨s0, s1⟩ := hSw; go_simp; (try with_reducible rfl)
      simp only [Act.put, List.setIfInBounds_toArray, List.set_cons_zero, List.set_cons_succ]
      refine wpAnyH_take (i := 7) (oi := { dst := some 36, op := Op.move (Operand.tmp 0), type := 22, pos := "law.go:56", after := #[{ on := 3, ground := Ground.guard }], guard := some (3, true) }) (v := ?_) rfl (by kernel_rfl) (by kernel_rfl) (by kernel_rfl) (fun _ _ _ h => h) (Or.inl ⟨by rfl, ?_⟩) (by assumption) ?_
      rotate_left
      · intro w hSw; obtain ⟨s0, s1⟩ := hSw; go_simp; (try with_reducible rfl)
      simp only [Act.put, List.setIfInBounds_toArray, List.set_cons_zero, List.set_cons_succ]
      refine wpAnyH_ready (rs := [8]) (by kernel_rfl) (by simp) ?_
      refine AllReadyH.cons (o := { dst := some 37, op := Op.call { callee := Callee.value (Operand.func 13), args := #[Operand.tmp 36], argTypes := #[22] }, type := 30, pos := "law.go:56", after := #[{ on := 7, ground := Ground.data }, { on := 3, ground := Ground.chain }, { on := 3, ground := Ground.guard }], guard := some (3, true) }) rfl (fun KK hKK => ?_) AllReadyH.nil
      go_simp
      refine (unhide HPC _ (unhide HBW _ (unhide HB7))).mono ?_
      rintro e w8 ⟨u8, rfl, b8, hp8⟩
      have HB8 := hide ((unhide HB7).trans (b8.mono (unhide HB7).size))
      have HZ8 := hide (unhide HZF _ (unhide HB8))
      have HP8 := hide hp8
      clear b8 hp8
      refine hKK.out _ _ (by exact unhide HZ8) (fun hHeld => ?_)
      clear hKK KK
      try simp only [Act.put, List.setIfInBounds_toArray, List.set_cons_zero, List.set_cons_succ]
      refine wpAnyH_ready (rs := [9]) (by kernel_rfl) (by simp) ?_
      refine AllReadyH.cons (o := { dst := some 38, op := Op.call { callee := Callee.value (Operand.func 17), args := #[Operand.tmp 37], argTypes := #[30] }, type := 38, pos := "law.go:56", after := #[{ on := 8, ground := Ground.data }, { on := 8, ground := Ground.chain }, { on := 3, ground := Ground.guard }], guard := some (3, true) }) rfl (fun KK hKK => ?_) AllReadyH.nil
      go_simp
      refine (unhide HON _ _ (unhide HP8)).mono ?_
      rintro e w9 ⟨q9, rfl, b9, hq9⟩
      have HB9 := hide ((unhide HB8).trans (b9.mono (unhide HB8).size))
      have HZ9 := hide (unhide HZF _ (unhide HB9))
      have HQ9 := hide hq9
      clear b9 hq9
      refine hKK.out _ _ (by exact unhide HZ9) (fun hHeld => ?_)
      clear hKK KK
      try simp only [Act.put, List.setIfInBounds_toArray, List.set_cons_zero, List.set_cons_succ]
      refine wpAnyH_ready (rs := [10]) (by kernel_rfl) (by simp) ?_
      refine AllReadyH.cons (o := { dst := some 39, op := Op.call { callee := Callee.value (Operand.func 16), args := #[Operand.tmp 35, Operand.tmp 38], argTypes := #[38, 38] }, type := 4, pos := "law.go:56", after := #[{ on := 6, ground := Ground.data }, { on := 9, ground := Ground.data }, { on := 9, ground := Ground.chain }, { on := 3, ground := Ground.guard }], guard := some (3, true) }) rfl (fun KK hKK => ?_) AllReadyH.nil
      go_simp
      refine (unhide HSM _ _ _ ((unhide HQF).below (unhide HB9)) (unhide HQ9)).mono ?_
      rintro e w10 ⟨rfl, b10⟩
      have HB10 := hide ((unhide HB9).trans (b10.mono (unhide HB9).size))
      have HZ10 := hide (unhide HZF _ (unhide HB10))
      clear b10
      refine hKK.out _ _ (by exact unhide HZ10) (fun hHeld => ?_)
      clear hKK KK
      try simp only [Act.put, List.setIfInBounds_toArray, List.set_cons_zero, List.set_cons_succ]
      refine wpAnyH_take (i := 11) (oi := { dst := some 40, op := Op.pick (Operand.tmp 32) (Operand.tmp 39) (Operand.const (Value.bool false)), type := 4, pos := "law.go:56", after := #[{ on := 3, ground := Ground.data }, { on := 10, ground := Ground.data }], guard := none }) (v := ?_) rfl (by kernel_rfl) (by kernel_rfl) (by kernel_rfl) (fun _ _ _ h => h) (Or.inl ⟨by rfl, ?_⟩) (by assumption) ?_
      rotate_left
      · intro w hSw; obtain ⟨s0, s1⟩ := hSw; go_simp; (try with_reducible rfl)
      simp only [Act.put, List.setIfInBounds_toArray, List.set_cons_zero, List.set_cons_succ]
      refine wpAnyH_take (i := 12) (oi := { dst := some 41, op := Op.move (Operand.tmp 40), type := 4, pos := "law.go:56", after := #[{ on := 11, ground := Ground.data }, { on := 10, ground := Ground.chain }], guard := none }) (v := ?_) rfl (by kernel_rfl) (by kernel_rfl) (by kernel_rfl) (fun _ _ _ h => h) (Or.inl ⟨by rfl, ?_⟩) (by assumption) ?_
      rotate_left
      · intro w hSw; obtain ⟨s0, s1⟩ := hSw; go_simp; (try with_reducible rfl)
      simp only [Act.put, List.setIfInBounds_toArray, List.set_cons_zero, List.set_cons_succ]
      refine wpAnyH_ready (rs := [13]) (by kernel_rfl) (by simp) ?_
      refine AllReadyH.cons (o := { dst := some 42, op := Op.call { callee := Callee.value (Operand.func 9), args := #[], argTypes := #[] }, type := 4, pos := "law.go:56", after := #[{ on := 12, ground := Ground.chain }, { on := 12, ground := Ground.guard }], guard := some (12, true) }) rfl (fun KK hKK => ?_) AllReadyH.nil
      go_simp
      refine (unhide HAW _ (unhide HBW _ (unhide HB10))).mono ?_
      rintro e w11 ⟨rfl, b11, k11⟩
      have HB11 := hide ((unhide HB10).trans (k11.mono (unhide HB10).size))
      have HZ11 := hide (unhide HZF _ (unhide HB11))
      have HE := hide b11
      clear b11 k11
      refine hKK.out _ _ (by exact unhide HZ11) (fun hHeld => ?_)
      clear hKK KK
      try simp only [Act.put, List.setIfInBounds_toArray, List.set_cons_zero, List.set_cons_succ]
      refine wpAnyH_take (i := 14) (oi := { dst := some 43, op := Op.pick (Operand.tmp 41) (Operand.tmp 42) (Operand.const (Value.bool false)), type := 4, pos := "law.go:56", after := #[{ on := 12, ground := Ground.data }, { on := 13, ground := Ground.data }], guard := none }) (v := ?_) rfl (by kernel_rfl) (by kernel_rfl) (by kernel_rfl) (fun _ _ _ h => h) (Or.inl ⟨by rfl, ?_⟩) (by assumption) ?_
      rotate_left
      · intro w hSw; obtain ⟨s0, s1⟩ := hSw; go_simp; (try with_reducible rfl)
      simp only [Act.put, List.setIfInBounds_toArray, List.set_cons_zero, List.set_cons_succ]
      refine wpAnyH_take (i := 15) (oi := { dst := some 4, op := Op.assign (Operand.tmp 43), type := 4, pos := "law.go:56", after := #[{ on := 14, ground := Ground.data }, { on := 13, ground := Ground.chain }, { on := 0, ground := Ground.phase }, { on := 1, ground := Ground.phase }, { on := 2, ground := Ground.phase }, { on := 3, ground := Ground.phase }, { on := 4, ground := Ground.phase }, { on := 5, ground := Ground.phase }, { on := 6, ground := Ground.phase }, { on := 7, ground := Ground.phase }, { on := 8, ground := Ground.phase }, { on := 9, ground := Ground.phase }, { on := 10, ground := Ground.phase }, { on := 11, ground := Ground.phase }, { on := 12, ground := Ground.phase }, { on := 13, ground := Ground.phase }, { on := 14, ground := Ground.phase }], guard := none }) (v := ?_) rfl (by kernel_rfl) (by kernel_rfl) (by kernel_rfl) (fun _ _ _ h => h) (Or.inl ⟨by rfl, ?_⟩) (by assumption) ?_
      rotate_left
      · intro w hSw; obtain ⟨s0, s1⟩ := hSw; go_simp; (try with_reducible rfl)
      simp only [Act.put, List.setIfInBounds_toArray, List.set_cons_zero, List.set_cons_succ]
      clear hHeld
      refine wpAnyH_done (by kernel_rfl) ?_ _
      go_wp2
      go_ret
      exact ⟨rfl, unhide HE⟩
    · clear h
      go_enter Try.func3, Try.ntmps3
      go_wp2_with fail
      refine (unhide HFW).mono ?_
      rintro e w1 ⟨rfl, hw1⟩
      rw [show w1 = w from hw1]
      clear hw1
      go_wp2_with fail
      refine (unhide HAW _ (Below.refl _ _)).mono ?_
      rintro e w2 ⟨rfl, b2, _⟩
      have HB2 := hide b2
      clear b2
      go_wp2
      go_ret
      exact ⟨rfl, unhide HB2⟩

end Go.Proofs.Ytpljphbaibncjaa

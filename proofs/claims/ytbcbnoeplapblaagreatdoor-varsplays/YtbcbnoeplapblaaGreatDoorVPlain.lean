/-
  The law's Plain; the document's Same and Texts, of two that are the same, and of any.
-/
import Derived.Test.YtbcbnoeplapblaaGreatDoorVAll
import Derived.Test.YtbcbnoeplapblaaGreatDoorVLaw
import Derived.Deep.RegionHeld3
import Derived.BigQuiet
namespace Go.Proofs.YtbcbnoeplapblaaGreatDoor
open Go.RowKit Go.Maps

theorem und_rvars : Tryz.prog.underlying 30 = some (.slice 62) := by kernel_rfl
theorem info_rvar : (Tryz.prog.info? 62).map (fun i => (i.zero, i.size, i.bytes)) = some (some vr0.val, 5, 40) := by kernel_rfl
set_option maxRecDepth 100000 in
set_option maxHeartbeats 40000000 in
theorem plain_any (v : Value) (ts : List Vr) (w : World) (h : VRow w v ts) (hl : ts.length ≤ 1000) : Calls Tryz.prog 14 #[v] w fun e w' => ∃ v', e = .returned v' ∧ Below w.heap.size w w' ∧ w'.ownsRow w.heap.size 62 5 v' ts.length (flatV ts) := by
  obtain ⟨iT, hiT, hzT0, hzT1, hzT2⟩ := info_of info_rvar
  obtain ⟨ad, cap, rfl, hsh⟩ := h
  obtain ⟨n, hn⟩ : ∃ n, n = ts.length := ⟨_, rfl⟩
  rw [← hn]
  have hnl : n ≤ 1000 := by omega
  have HSH := hide hsh
  have HN := hide hn
  clear hsh hn hl
  go_enter Tryz.func14, Tryz.ntmps14
  go_wp2_with fail
  go_loopw [3, 4] (fun v' i wr => ∃ k : Nat, i = .int .i64 (k : Int) ∧ k ≤ n ∧ Hid (wr.ownsRow w.heap.size 62 5 v' k (flatV (ts.take k)) ∧ Below w.heap.size w wr)) (fun _ i _ => n - (intOf i).toNat)
  case atStart => exact ⟨0, rfl, Nat.zero_le _, hide ⟨World.ownsRow_nil _ _ _ _, Below.refl _ _⟩⟩
  case round =>
    obtain ⟨k, rfl, hk, HO⟩ := hrel
    by_cases hlt : k < n
    · have hkt : k < ts.length := by have := unhide HN; omega
      obtain ⟨t, ht⟩ : ∃ t, ts[k]? = some t := ⟨_, List.getElem?_eq_getElem hkt⟩
      obtain ⟨g, rfl, hg, hc0, hc1, hc2, hc3, hc4⟩ := unhide HSH k t ht
      have hw1 : ∀ j, wr.cell? ⟨g, j, none⟩ = w.cell? ⟨g, j, none⟩ := fun j => World.cell?_of_block ((unhide HO).2.block g hg)
      have HZ : Hid (wr.cell? ⟨g, k * 5, none⟩ = some (.string (BA t.name)) ∧ wr.cell? ⟨g, k * 5 + 1, none⟩ = some (.string (BA t.value)) ∧ wr.cell? ⟨g, k * 5 + 2, none⟩ = some (.bool t.set) ∧ wr.cell? ⟨g, k * 5 + 3, none⟩ = some (.bool t.ex) ∧ wr.cell? ⟨g, k * 5 + 4, none⟩ = some (.bool t.ro)) := hide ⟨(hw1 _).trans hc0, (hw1 _).trans hc1, (hw1 _).trans hc2, (hw1 _).trans hc3, (hw1 _).trans hc4⟩
      have hlt1 : (k : Int) < (n : Int) := by omega
      have hk0 : (0 : Int) ≤ (k : Int) := by omega
      have HT := hide ht
      have HG := hide hg
      clear hkt ht hg hc0 hc1 hc2 hc3 hc4 hw1
      go_wp2_with fail
      refine wp_region_held_drew (S := fun w' => w'.cell? ⟨g, k * 5, none⟩ = some (.string (BA t.name)) ∧ w'.cell? ⟨g, k * 5 + 1, none⟩ = some (.string (BA t.value)) ∧ w'.cell? ⟨g, k * 5 + 2, none⟩ = some (.bool t.set) ∧ w'.cell? ⟨g, k * 5 + 3, none⟩ = some (.bool t.ex) ∧ w'.cell? ⟨g, k * 5 + 4, none⟩ = some (.bool t.ro)) (by kernel_rfl) (by exact unhide HZ) (fun hHeld => ?_)
      refine wpAnyH_take (i := 0) (oi := { dst := some 11, op := Op.move (Operand.tmp 3), type := 30, pos := "law.go:51", after := #[], guard := none }) (v := ?_) rfl (by kernel_rfl) (by kernel_rfl) (by kernel_rfl) (fun _ _ _ h => h) (Or.inl ⟨by rfl, ?_⟩) (by assumption) ?_
      rotate_left
      · intro w hSw; obtain ⟨s0, s1, s2, s3, s4⟩ := hSw; go_simp; (try with_reducible rfl)
      simp only [Act.put, List.setIfInBounds_toArray, List.set_cons_zero, List.set_cons_succ]
      refine wpAnyH_take (i := 1) (oi := { dst := some 12, op := Op.move (Operand.tmp 0), type := 43, pos := "law.go:51", after := #[], guard := none }) (v := ?_) rfl (by kernel_rfl) (by kernel_rfl) (by kernel_rfl) (fun _ _ _ h => h) (Or.inl ⟨by rfl, ?_⟩) (by assumption) ?_
      rotate_left
      · intro w hSw; obtain ⟨s0, s1, s2, s3, s4⟩ := hSw; go_simp; (try with_reducible rfl)
      simp only [Act.put, List.setIfInBounds_toArray, List.set_cons_zero, List.set_cons_succ]
      refine wpAnyH_take (i := 2) (oi := { dst := some 13, op := Op.move (Operand.tmp 4), type := 3, pos := "law.go:51", after := #[], guard := none }) (v := ?_) rfl (by kernel_rfl) (by kernel_rfl) (by kernel_rfl) (fun _ _ _ h => h) (Or.inl ⟨by rfl, ?_⟩) (by assumption) ?_
      rotate_left
      · intro w hSw; obtain ⟨s0, s1, s2, s3, s4⟩ := hSw; go_simp; (try with_reducible rfl)
      simp only [Act.put, List.setIfInBounds_toArray, List.set_cons_zero, List.set_cons_succ]
      refine wpAnyH_take (i := 3) (oi := { dst := some 14, op := Op.indexAddr 43 (Operand.tmp 12) (Operand.tmp 13), type := 0, pos := "law.go:51", after := #[{ on := 1, ground := Ground.data }, { on := 2, ground := Ground.data }], guard := none }) (v := ?_) rfl (by kernel_rfl) (by kernel_rfl) (by kernel_rfl) (fun _ _ _ h => h) (Or.inl ⟨by rfl, ?_⟩) (by assumption) ?_
      rotate_left
      · intro w hSw; obtain ⟨s0, s1, s2, s3, s4⟩ := hSw; go_simp; (try with_reducible rfl)
      simp only [Act.put, List.setIfInBounds_toArray, List.set_cons_zero, List.set_cons_succ]
      refine wpAnyH_take (i := 4) (oi := { dst := some 15, op := Op.fieldAddr 61 (Operand.tmp 14) 0, type := 0, pos := "law.go:51", after := #[{ on := 3, ground := Ground.data }], guard := none }) (v := ?_) rfl (by kernel_rfl) (by kernel_rfl) (by kernel_rfl) (fun _ _ _ h => h) (Or.inl ⟨by rfl, ?_⟩) (by assumption) ?_
      rotate_left
      · intro w hSw; obtain ⟨s0, s1, s2, s3, s4⟩ := hSw; go_simp; (try with_reducible rfl)
      simp only [Act.put, List.setIfInBounds_toArray, List.set_cons_zero, List.set_cons_succ]
      refine wpAnyH_take (i := 5) (oi := { dst := some 16, op := Op.load 9 (Operand.tmp 15), type := 9, pos := "law.go:51", after := #[{ on := 4, ground := Ground.data }], guard := none }) (v := ?_) rfl (by kernel_rfl) (by kernel_rfl) (by kernel_rfl) (fun _ _ _ h => h) (Or.inl ⟨by rfl, ?_⟩) (by assumption) ?_
      rotate_left
      · intro w hSw; obtain ⟨s0, s1, s2, s3, s4⟩ := hSw; go_simp; (try with_reducible rfl)
      simp only [Act.put, List.setIfInBounds_toArray, List.set_cons_zero, List.set_cons_succ]
      refine wpAnyH_take (i := 6) (oi := { dst := some 17, op := Op.move (Operand.tmp 0), type := 43, pos := "law.go:51", after := #[], guard := none }) (v := ?_) rfl (by kernel_rfl) (by kernel_rfl) (by kernel_rfl) (fun _ _ _ h => h) (Or.inl ⟨by rfl, ?_⟩) (by assumption) ?_
      rotate_left
      · intro w hSw; obtain ⟨s0, s1, s2, s3, s4⟩ := hSw; go_simp; (try with_reducible rfl)
      simp only [Act.put, List.setIfInBounds_toArray, List.set_cons_zero, List.set_cons_succ]
      refine wpAnyH_take (i := 7) (oi := { dst := some 18, op := Op.move (Operand.tmp 4), type := 3, pos := "law.go:51", after := #[], guard := none }) (v := ?_) rfl (by kernel_rfl) (by kernel_rfl) (by kernel_rfl) (fun _ _ _ h => h) (Or.inl ⟨by rfl, ?_⟩) (by assumption) ?_
      rotate_left
      · intro w hSw; obtain ⟨s0, s1, s2, s3, s4⟩ := hSw; go_simp; (try with_reducible rfl)
      simp only [Act.put, List.setIfInBounds_toArray, List.set_cons_zero, List.set_cons_succ]
      refine wpAnyH_take (i := 8) (oi := { dst := some 19, op := Op.indexAddr 43 (Operand.tmp 17) (Operand.tmp 18), type := 0, pos := "law.go:51", after := #[{ on := 6, ground := Ground.data }, { on := 7, ground := Ground.data }], guard := none }) (v := ?_) rfl (by kernel_rfl) (by kernel_rfl) (by kernel_rfl) (fun _ _ _ h => h) (Or.inl ⟨by rfl, ?_⟩) (by assumption) ?_
      rotate_left
      · intro w hSw; obtain ⟨s0, s1, s2, s3, s4⟩ := hSw; go_simp; (try with_reducible rfl)
      simp only [Act.put, List.setIfInBounds_toArray, List.set_cons_zero, List.set_cons_succ]
      refine wpAnyH_take (i := 9) (oi := { dst := some 20, op := Op.fieldAddr 61 (Operand.tmp 19) 1, type := 0, pos := "law.go:51", after := #[{ on := 8, ground := Ground.data }], guard := none }) (v := ?_) rfl (by kernel_rfl) (by kernel_rfl) (by kernel_rfl) (fun _ _ _ h => h) (Or.inl ⟨by rfl, ?_⟩) (by assumption) ?_
      rotate_left
      · intro w hSw; obtain ⟨s0, s1, s2, s3, s4⟩ := hSw; go_simp; (try with_reducible rfl)
      simp only [Act.put, List.setIfInBounds_toArray, List.set_cons_zero, List.set_cons_succ]
      refine wpAnyH_take (i := 10) (oi := { dst := some 21, op := Op.load 9 (Operand.tmp 20), type := 9, pos := "law.go:51", after := #[{ on := 9, ground := Ground.data }], guard := none }) (v := ?_) rfl (by kernel_rfl) (by kernel_rfl) (by kernel_rfl) (fun _ _ _ h => h) (Or.inl ⟨by rfl, ?_⟩) (by assumption) ?_
      rotate_left
      · intro w hSw; obtain ⟨s0, s1, s2, s3, s4⟩ := hSw; go_simp; (try with_reducible rfl)
      simp only [Act.put, List.setIfInBounds_toArray, List.set_cons_zero, List.set_cons_succ]
      refine wpAnyH_take (i := 11) (oi := { dst := some 22, op := Op.move (Operand.tmp 0), type := 43, pos := "law.go:51", after := #[], guard := none }) (v := ?_) rfl (by kernel_rfl) (by kernel_rfl) (by kernel_rfl) (fun _ _ _ h => h) (Or.inl ⟨by rfl, ?_⟩) (by assumption) ?_
      rotate_left
      · intro w hSw; obtain ⟨s0, s1, s2, s3, s4⟩ := hSw; go_simp; (try with_reducible rfl)
      simp only [Act.put, List.setIfInBounds_toArray, List.set_cons_zero, List.set_cons_succ]
      refine wpAnyH_take (i := 12) (oi := { dst := some 23, op := Op.move (Operand.tmp 4), type := 3, pos := "law.go:51", after := #[], guard := none }) (v := ?_) rfl (by kernel_rfl) (by kernel_rfl) (by kernel_rfl) (fun _ _ _ h => h) (Or.inl ⟨by rfl, ?_⟩) (by assumption) ?_
      rotate_left
      · intro w hSw; obtain ⟨s0, s1, s2, s3, s4⟩ := hSw; go_simp; (try with_reducible rfl)
      simp only [Act.put, List.setIfInBounds_toArray, List.set_cons_zero, List.set_cons_succ]
      refine wpAnyH_take (i := 13) (oi := { dst := some 24, op := Op.indexAddr 43 (Operand.tmp 22) (Operand.tmp 23), type := 0, pos := "law.go:51", after := #[{ on := 11, ground := Ground.data }, { on := 12, ground := Ground.data }], guard := none }) (v := ?_) rfl (by kernel_rfl) (by kernel_rfl) (by kernel_rfl) (fun _ _ _ h => h) (Or.inl ⟨by rfl, ?_⟩) (by assumption) ?_
      rotate_left
      · intro w hSw; obtain ⟨s0, s1, s2, s3, s4⟩ := hSw; go_simp; (try with_reducible rfl)
      simp only [Act.put, List.setIfInBounds_toArray, List.set_cons_zero, List.set_cons_succ]
      refine wpAnyH_take (i := 14) (oi := { dst := some 25, op := Op.fieldAddr 61 (Operand.tmp 24) 2, type := 0, pos := "law.go:51", after := #[{ on := 13, ground := Ground.data }], guard := none }) (v := ?_) rfl (by kernel_rfl) (by kernel_rfl) (by kernel_rfl) (fun _ _ _ h => h) (Or.inl ⟨by rfl, ?_⟩) (by assumption) ?_
      rotate_left
      · intro w hSw; obtain ⟨s0, s1, s2, s3, s4⟩ := hSw; go_simp; (try with_reducible rfl)
      simp only [Act.put, List.setIfInBounds_toArray, List.set_cons_zero, List.set_cons_succ]
      refine wpAnyH_take (i := 15) (oi := { dst := some 26, op := Op.load 4 (Operand.tmp 25), type := 4, pos := "law.go:51", after := #[{ on := 14, ground := Ground.data }], guard := none }) (v := ?_) rfl (by kernel_rfl) (by kernel_rfl) (by kernel_rfl) (fun _ _ _ h => h) (Or.inl ⟨by rfl, ?_⟩) (by assumption) ?_
      rotate_left
      · intro w hSw; obtain ⟨s0, s1, s2, s3, s4⟩ := hSw; go_simp; (try with_reducible rfl)
      simp only [Act.put, List.setIfInBounds_toArray, List.set_cons_zero, List.set_cons_succ]
      refine wpAnyH_take (i := 16) (oi := { dst := some 27, op := Op.move (Operand.tmp 0), type := 43, pos := "law.go:51", after := #[], guard := none }) (v := ?_) rfl (by kernel_rfl) (by kernel_rfl) (by kernel_rfl) (fun _ _ _ h => h) (Or.inl ⟨by rfl, ?_⟩) (by assumption) ?_
      rotate_left
      · intro w hSw; obtain ⟨s0, s1, s2, s3, s4⟩ := hSw; go_simp; (try with_reducible rfl)
      simp only [Act.put, List.setIfInBounds_toArray, List.set_cons_zero, List.set_cons_succ]
      refine wpAnyH_take (i := 17) (oi := { dst := some 28, op := Op.move (Operand.tmp 4), type := 3, pos := "law.go:51", after := #[], guard := none }) (v := ?_) rfl (by kernel_rfl) (by kernel_rfl) (by kernel_rfl) (fun _ _ _ h => h) (Or.inl ⟨by rfl, ?_⟩) (by assumption) ?_
      rotate_left
      · intro w hSw; obtain ⟨s0, s1, s2, s3, s4⟩ := hSw; go_simp; (try with_reducible rfl)
      simp only [Act.put, List.setIfInBounds_toArray, List.set_cons_zero, List.set_cons_succ]
      refine wpAnyH_take (i := 18) (oi := { dst := some 29, op := Op.indexAddr 43 (Operand.tmp 27) (Operand.tmp 28), type := 0, pos := "law.go:51", after := #[{ on := 16, ground := Ground.data }, { on := 17, ground := Ground.data }], guard := none }) (v := ?_) rfl (by kernel_rfl) (by kernel_rfl) (by kernel_rfl) (fun _ _ _ h => h) (Or.inl ⟨by rfl, ?_⟩) (by assumption) ?_
      rotate_left
      · intro w hSw; obtain ⟨s0, s1, s2, s3, s4⟩ := hSw; go_simp; (try with_reducible rfl)
      simp only [Act.put, List.setIfInBounds_toArray, List.set_cons_zero, List.set_cons_succ]
      refine wpAnyH_take (i := 19) (oi := { dst := some 30, op := Op.fieldAddr 61 (Operand.tmp 29) 3, type := 0, pos := "law.go:51", after := #[{ on := 18, ground := Ground.data }], guard := none }) (v := ?_) rfl (by kernel_rfl) (by kernel_rfl) (by kernel_rfl) (fun _ _ _ h => h) (Or.inl ⟨by rfl, ?_⟩) (by assumption) ?_
      rotate_left
      · intro w hSw; obtain ⟨s0, s1, s2, s3, s4⟩ := hSw; go_simp; (try with_reducible rfl)
      simp only [Act.put, List.setIfInBounds_toArray, List.set_cons_zero, List.set_cons_succ]
      refine wpAnyH_take (i := 20) (oi := { dst := some 31, op := Op.load 4 (Operand.tmp 30), type := 4, pos := "law.go:51", after := #[{ on := 19, ground := Ground.data }], guard := none }) (v := ?_) rfl (by kernel_rfl) (by kernel_rfl) (by kernel_rfl) (fun _ _ _ h => h) (Or.inl ⟨by rfl, ?_⟩) (by assumption) ?_
      rotate_left
      · intro w hSw; obtain ⟨s0, s1, s2, s3, s4⟩ := hSw; go_simp; (try with_reducible rfl)
      simp only [Act.put, List.setIfInBounds_toArray, List.set_cons_zero, List.set_cons_succ]
      refine wpAnyH_take (i := 21) (oi := { dst := some 32, op := Op.move (Operand.tmp 0), type := 43, pos := "law.go:51", after := #[], guard := none }) (v := ?_) rfl (by kernel_rfl) (by kernel_rfl) (by kernel_rfl) (fun _ _ _ h => h) (Or.inl ⟨by rfl, ?_⟩) (by assumption) ?_
      rotate_left
      · intro w hSw; obtain ⟨s0, s1, s2, s3, s4⟩ := hSw; go_simp; (try with_reducible rfl)
      simp only [Act.put, List.setIfInBounds_toArray, List.set_cons_zero, List.set_cons_succ]
      refine wpAnyH_take (i := 22) (oi := { dst := some 33, op := Op.move (Operand.tmp 4), type := 3, pos := "law.go:51", after := #[], guard := none }) (v := ?_) rfl (by kernel_rfl) (by kernel_rfl) (by kernel_rfl) (fun _ _ _ h => h) (Or.inl ⟨by rfl, ?_⟩) (by assumption) ?_
      rotate_left
      · intro w hSw; obtain ⟨s0, s1, s2, s3, s4⟩ := hSw; go_simp; (try with_reducible rfl)
      simp only [Act.put, List.setIfInBounds_toArray, List.set_cons_zero, List.set_cons_succ]
      refine wpAnyH_take (i := 23) (oi := { dst := some 34, op := Op.indexAddr 43 (Operand.tmp 32) (Operand.tmp 33), type := 0, pos := "law.go:51", after := #[{ on := 21, ground := Ground.data }, { on := 22, ground := Ground.data }], guard := none }) (v := ?_) rfl (by kernel_rfl) (by kernel_rfl) (by kernel_rfl) (fun _ _ _ h => h) (Or.inl ⟨by rfl, ?_⟩) (by assumption) ?_
      rotate_left
      · intro w hSw; obtain ⟨s0, s1, s2, s3, s4⟩ := hSw; go_simp; (try with_reducible rfl)
      simp only [Act.put, List.setIfInBounds_toArray, List.set_cons_zero, List.set_cons_succ]
      refine wpAnyH_take (i := 24) (oi := { dst := some 35, op := Op.fieldAddr 61 (Operand.tmp 34) 4, type := 0, pos := "law.go:51", after := #[{ on := 23, ground := Ground.data }], guard := none }) (v := ?_) rfl (by kernel_rfl) (by kernel_rfl) (by kernel_rfl) (fun _ _ _ h => h) (Or.inl ⟨by rfl, ?_⟩) (by assumption) ?_
      rotate_left
      · intro w hSw; obtain ⟨s0, s1, s2, s3, s4⟩ := hSw; go_simp; (try with_reducible rfl)
      simp only [Act.put, List.setIfInBounds_toArray, List.set_cons_zero, List.set_cons_succ]
      refine wpAnyH_take (i := 25) (oi := { dst := some 36, op := Op.load 4 (Operand.tmp 35), type := 4, pos := "law.go:51", after := #[{ on := 24, ground := Ground.data }], guard := none }) (v := ?_) rfl (by kernel_rfl) (by kernel_rfl) (by kernel_rfl) (fun _ _ _ h => h) (Or.inl ⟨by rfl, ?_⟩) (by assumption) ?_
      rotate_left
      · intro w hSw; obtain ⟨s0, s1, s2, s3, s4⟩ := hSw; go_simp; (try with_reducible rfl)
      simp only [Act.put, List.setIfInBounds_toArray, List.set_cons_zero, List.set_cons_succ]
      refine wpAnyH_take (i := 26) (oi := { dst := some 37, op := Op.build 62 #[(0, Operand.tmp 16), (1, Operand.tmp 21), (2, Operand.tmp 26), (3, Operand.tmp 31), (4, Operand.tmp 36)], type := 62, pos := "law.go:51", after := #[{ on := 5, ground := Ground.data }, { on := 10, ground := Ground.data }, { on := 15, ground := Ground.data }, { on := 20, ground := Ground.data }, { on := 25, ground := Ground.data }], guard := none }) (v := ?_) rfl (by kernel_rfl) (by kernel_rfl) (by kernel_rfl) (fun _ _ _ h => h) (Or.inl ⟨by rfl, ?_⟩) (by assumption) ?_
      rotate_left
      · intro w hSw; obtain ⟨s0, s1, s2, s3, s4⟩ := hSw; go_simp; (try with_reducible rfl)
      simp only [Act.put, List.setIfInBounds_toArray, List.set_cons_zero, List.set_cons_succ]
      refine wpAnyH_ready (rs := [27]) (by kernel_rfl) (by simp) ?_
      refine AllReadyH.cons (o := { dst := some 38, op := Op.buildSlice 30 1 #[(0, Operand.tmp 37)], type := 30, pos := "law.go:51", after := #[{ on := 26, ground := Ground.data }], guard := none }) rfl (fun KK hKK => ?_) AllReadyH.nil
      go_simp
      have z1 : (wr.alloc (.cells #[.string (BA t.name), .string (BA t.value), .bool t.set, .bool t.ex, .bool t.ro] 62)).cell? ⟨g, k * 5, none⟩ = some (.string (BA t.name)) ∧ (wr.alloc (.cells #[.string (BA t.name), .string (BA t.value), .bool t.set, .bool t.ex, .bool t.ro] 62)).cell? ⟨g, k * 5 + 1, none⟩ = some (.string (BA t.value)) ∧ (wr.alloc (.cells #[.string (BA t.name), .string (BA t.value), .bool t.set, .bool t.ex, .bool t.ro] 62)).cell? ⟨g, k * 5 + 2, none⟩ = some (.bool t.set) ∧ (wr.alloc (.cells #[.string (BA t.name), .string (BA t.value), .bool t.set, .bool t.ex, .bool t.ro] 62)).cell? ⟨g, k * 5 + 3, none⟩ = some (.bool t.ex) ∧ (wr.alloc (.cells #[.string (BA t.name), .string (BA t.value), .bool t.set, .bool t.ex, .bool t.ro] 62)).cell? ⟨g, k * 5 + 4, none⟩ = some (.bool t.ro) := ⟨cell_alloc (unhide HZ).1 _, cell_alloc (unhide HZ).2.1 _, cell_alloc (unhide HZ).2.2.1 _, cell_alloc (unhide HZ).2.2.2.1 _, cell_alloc (unhide HZ).2.2.2.2 _⟩
      refine hKK.out _ _ (by exact z1) (fun hHeld => ?_)
      clear hKK KK
      try simp only [Act.put, List.setIfInBounds_toArray, List.set_cons_zero, List.set_cons_succ]
      refine wpAnyH_ready (rs := [28]) (by kernel_rfl) (by simp) ?_
      refine AllReadyH.cons (o := { dst := some 39, op := Op.call { callee := Callee.builtin Builtin.append, args := #[Operand.tmp 11, Operand.tmp 38], argTypes := #[30, 30] }, type := 30, pos := "law.go:51", after := #[{ on := 0, ground := Ground.data }, { on := 27, ground := Ground.data }], guard := none }) rfl (fun KK hKK => ?_) AllReadyH.nil
      refine step_append_lies _ (by rfl) _ _ _ (by rfl) w.heap.size 62 iT _ 5 40 und_rvars hiT hzT0 hzT1 hzT2 rfl (by decide) u3 k (flatV (ts.take k)) (by simp [Act.eval]) (own_drew (World.ownsRow.alloc (unhide HO).1 _)) ⟨wr.heap.size, 0, none⟩ 1 1 [.string (BA t.name), .string (BA t.value), .bool t.set, .bool t.ex, .bool t.ro] (by simp [Act.eval]) rfl (fun j u hu => five_cells j u hu) five_val (by decide) (by unfold maxLen; omega) (by omega) (by have := (unhide HO).2.size; simp; omega) (wr.heap.size + 1) (by simp) ?_
      intro gg cg w3 hown3 hgrow _ _
      have hne : some g ≠ u3.ownBlock := fun e => by have h1 := (World.ownsRow.lt (unhide HO).1 g e.symm).1; have h2 := unhide HG; omega
      have z2 : w3.cell? ⟨g, k * 5, none⟩ = some (.string (BA t.name)) ∧ w3.cell? ⟨g, k * 5 + 1, none⟩ = some (.string (BA t.value)) ∧ w3.cell? ⟨g, k * 5 + 2, none⟩ = some (.bool t.set) ∧ w3.cell? ⟨g, k * 5 + 3, none⟩ = some (.bool t.ex) ∧ w3.cell? ⟨g, k * 5 + 4, none⟩ = some (.bool t.ro) := ⟨hgrow.cell z1.1 hne, hgrow.cell z1.2.1 hne, hgrow.cell z1.2.2.1 hne, hgrow.cell z1.2.2.2.1 hne, hgrow.cell z1.2.2.2.2 hne⟩
      have HW3 : Hid (w3.ownsRow w.heap.size 62 5 (.slice (some ⟨gg, 0, none⟩) (k + 1) cg) (k + 1) (flatV (ts.take (k + 1))) ∧ Below w.heap.size w w3) := hide ⟨by rw [List.take_add_one, unhide HT]; show World.ownsRow _ _ _ _ _ _ (flatV (ts.take k ++ [t])); rw [flatV_snoc]; exact hown3, ((unhide HO).2.alloc (unhide HO).2.size _).drew.grown hgrow (by have := (unhide HO).2.size; simp; omega) (fun j hj => (World.ownsRow.lt (unhide HO).1 j hj).1)⟩
      clear hown3 hgrow hne
      refine hKK.out _ _ (by exact z2) (fun hHeld => ?_)
      clear hKK KK
      try simp only [Act.put, List.setIfInBounds_toArray, List.set_cons_zero, List.set_cons_succ]
      refine wpAnyH_take (i := 29) (oi := { dst := some 3, op := Op.assign (Operand.tmp 39), type := 30, pos := "law.go:51", after := #[{ on := 28, ground := Ground.data }, { on := 28, ground := Ground.chain }, { on := 0, ground := Ground.phase }, { on := 1, ground := Ground.phase }, { on := 2, ground := Ground.phase }, { on := 3, ground := Ground.phase }, { on := 4, ground := Ground.phase }, { on := 5, ground := Ground.phase }, { on := 6, ground := Ground.phase }, { on := 7, ground := Ground.phase }, { on := 8, ground := Ground.phase }, { on := 9, ground := Ground.phase }, { on := 10, ground := Ground.phase }, { on := 11, ground := Ground.phase }, { on := 12, ground := Ground.phase }, { on := 13, ground := Ground.phase }, { on := 14, ground := Ground.phase }, { on := 15, ground := Ground.phase }, { on := 16, ground := Ground.phase }, { on := 17, ground := Ground.phase }, { on := 18, ground := Ground.phase }, { on := 19, ground := Ground.phase }, { on := 20, ground := Ground.phase }, { on := 21, ground := Ground.phase }, { on := 22, ground := Ground.phase }, { on := 23, ground := Ground.phase }, { on := 24, ground := Ground.phase }, { on := 25, ground := Ground.phase }, { on := 26, ground := Ground.phase }, { on := 27, ground := Ground.phase }, { on := 28, ground := Ground.phase }], guard := none }) (v := ?_) rfl (by kernel_rfl) (by kernel_rfl) (by kernel_rfl) (fun _ _ _ h => h) (Or.inl ⟨by rfl, ?_⟩) (by assumption) ?_
      rotate_left
      · intro w hSw; obtain ⟨s0, s1, s2, s3, s4⟩ := hSw; go_simp; (try with_reducible rfl)
      simp only [Act.put, List.setIfInBounds_toArray, List.set_cons_zero, List.set_cons_succ]
      clear hHeld
      refine wpAnyH_done (by kernel_rfl) ?_ _
      clear z1 z2
      go_wp2
      go_roundw
      case rel => exact ⟨k + 1, by go_num, by omega, hide ⟨(unhide HW3).1, (unhide HW3).2⟩⟩
      case measure => simp [intOf]; omega
    · have hlt1 : ¬ (k : Int) < (n : Int) := by omega
      have HTR : Hid (wr.ownsRow w.heap.size 62 5 u3 n (flatV ts)) := hide (by
        have h1 := (unhide HO).1
        have hkn : k = n := by omega
        rw [List.take_of_length_le (by have := unhide HN; omega), hkn] at h1
        exact h1)
      go_wp2
      go_ret
      exact ⟨u3, rfl, (unhide HO).2, unhide HTR⟩
set_option maxRecDepth 100000 in
set_option maxHeartbeats 40000000 in
theorem same_any (v1 v2 : Value) (ts : List Vr) (w : World) (h1 : VRow w v1 ts) (h2 : VRow w v2 ts) (hl : ts.length ≤ 1000) : Calls Tryz.prog 13 #[v1, v2] w fun e w' => e = .returned (.bool true) ∧ Below w.heap.size w w' := by
  obtain ⟨ad1, cap1, rfl, hs1⟩ := h1
  obtain ⟨ad2, cap2, rfl, hs2⟩ := h2
  obtain ⟨n, hn⟩ : ∃ n, n = ts.length := ⟨_, rfl⟩
  rw [← hn]
  have HS1 := hide hs1
  have HS2 := hide hs2
  have hnl : n ≤ 1000 := by omega
  have HN := hide hn
  clear hs1 hs2 hn hl
  go_enter Tryz.func13, Tryz.ntmps13
  go_wp2_with fail
  go_loopw [5] (fun i wr => ∃ k : Nat, k ≤ n ∧ i = .int .i64 k ∧ Hid (Below w.heap.size w wr)) (fun i _ => n - (intOf i).toNat)
  case atStart => exact ⟨0, by omega, rfl, hide (Below.refl _ _)⟩
  case round =>
    obtain ⟨k, hk, rfl, HB⟩ := hrel
    by_cases hlt : k < n
    · have hkt : k < ts.length := by have := unhide HN; omega
      obtain ⟨t, ht⟩ : ∃ t, ts[k]? = some t := ⟨_, List.getElem?_eq_getElem hkt⟩
      obtain ⟨g1, rfl, hg1, a0, a1, a2, a3, a4⟩ := unhide HS1 k t ht
      obtain ⟨g2, rfl, hg2, b0, b1, b2, b3, b4⟩ := unhide HS2 k t ht
      have hw1 : ∀ j, wr.cell? ⟨g1, j, none⟩ = w.cell? ⟨g1, j, none⟩ := fun j => World.cell?_of_block ((unhide HB).block g1 hg1)
      have hw2 : ∀ j, wr.cell? ⟨g2, j, none⟩ = w.cell? ⟨g2, j, none⟩ := fun j => World.cell?_of_block ((unhide HB).block g2 hg2)
      have p0 := (hw1 _).trans a0
      have p1 := (hw1 _).trans a1
      have p2 := (hw1 _).trans a2
      have p3 := (hw1 _).trans a3
      have p4 := (hw1 _).trans a4
      have q0 := (hw2 _).trans b0
      have q1 := (hw2 _).trans b1
      have q2 := (hw2 _).trans b2
      have q3 := (hw2 _).trans b3
      have q4 := (hw2 _).trans b4
      have hlt1 : (k : Int) < (n : Int) := by omega
      have hk0 : (0 : Int) ≤ (k : Int) := by omega
      clear hkt ht hg1 hg2 a0 a1 a2 a3 a4 b0 b1 b2 b3 b4 hw1 hw2
      go_wp2_with fail
      go_quiet (fail)
      go_wp2
      go_roundw
      case rel => exact ⟨k + 1, by omega, by go_num, hide ((unhide HB).trans ((below_drew _ _).mono (unhide HB).size))⟩
      case measure => simp [intOf]; omega
    · have hlt1 : ¬ (k : Int) < (n : Int) := by omega
      go_wp2
      go_ret
      exact ⟨rfl, unhide HB⟩
set_option maxRecDepth 100000 in
set_option maxHeartbeats 40000000 in
theorem textsEq_any (v1 v2 : Value) (l : List (List UInt8)) (w : World) (h1 : AIn w v1 l) (h2 : AIn w v2 l) (hl : l.length ≤ 1000) : Calls Tryz.prog 16 #[v1, v2] w fun e w' => e = .returned (.bool true) ∧ Below w.heap.size w w' := by
  obtain ⟨ad1, cap1, rfl, _, hs1⟩ := h1
  obtain ⟨ad2, cap2, rfl, _, hs2⟩ := h2
  obtain ⟨n, hn⟩ : ∃ n, n = l.length := ⟨_, rfl⟩
  rw [← hn]
  have HS1 := hide hs1
  have HS2 := hide hs2
  have hnl : n ≤ 1000 := by omega
  have HN := hide hn
  clear hs1 hs2 hn hl
  go_enter Tryz.func16, Tryz.ntmps16
  go_wp2_with fail
  go_loopw [5] (fun i wr => ∃ k : Nat, k ≤ n ∧ i = .int .i64 k ∧ Hid (Below w.heap.size w wr)) (fun i _ => n - (intOf i).toNat)
  case atStart => exact ⟨0, by omega, rfl, hide (Below.refl _ _)⟩
  case round =>
    obtain ⟨k, hk, rfl, HB⟩ := hrel
    by_cases hlt : k < n
    · have hkt : k < l.length := by have := unhide HN; omega
      obtain ⟨t, ht⟩ : ∃ t, l[k]? = some t := ⟨_, List.getElem?_eq_getElem hkt⟩
      rcases unhide HS1 with h0 | ⟨g1, o1, rfl, hg1, a0⟩
      · rw [h0] at ht
        simp at ht
      rcases unhide HS2 with h0 | ⟨g2, o2, rfl, hg2, b0⟩
      · rw [h0] at ht
        simp at ht
      have p0 : wr.cell? ⟨g1, o1 + k, none⟩ = some (.string (BA t)) := (World.cell?_of_block ((unhide HB).block g1 hg1)).trans (a0 k t ht)
      have q0 : wr.cell? ⟨g2, o2 + k, none⟩ = some (.string (BA t)) := (World.cell?_of_block ((unhide HB).block g2 hg2)).trans (b0 k t ht)
      have hlt1 : (k : Int) < (n : Int) := by omega
      have hk0 : (0 : Int) ≤ (k : Int) := by omega
      clear hkt ht hg1 hg2 a0 b0
      go_wp2_with fail
      go_quiet (fail)
      go_wp2
      go_roundw
      case rel => exact ⟨k + 1, by omega, by go_num, hide ((unhide HB).trans ((below_drew _ _).mono (unhide HB).size))⟩
      case measure => simp [intOf]; omega
    · have hlt1 : ¬ (k : Int) < (n : Int) := by omega
      go_wp2
      go_ret
      exact ⟨rfl, unhide HB⟩

end Go.Proofs.YtbcbnoeplapblaaGreatDoor

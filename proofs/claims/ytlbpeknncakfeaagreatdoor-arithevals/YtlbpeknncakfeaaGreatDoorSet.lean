/-
  A name is set.
-/
import Derived.Test.YtlbpeknncakfeaaGreatDoorScope
import Derived.Deep.RegionHeld3
import Derived.Deep.AppendLies
namespace Go.Proofs.YtlbpeknncakfeaaGreatDoor
open Go.RowKit Go.Maps

def setS (s : List UInt8) (n : Int) (σ : St) : St := ⟨σ.D.put (.string s) (.lit (.int .i64 n)), σ.sets ++ [(s, textL n)]⟩

theorem info39 : (Tryz.prog.info? 39).map (fun i => (i.zero, i.size, i.bytes)) = some (some (.agg #[.string ⟨#[]⟩, .string ⟨#[]⟩]), 2, 32) := by kernel_rfl
theorem two_cells {w : World} {x y : Value} {t : TypeId} : ∀ j u, [x, y][j]? = some u → (w.alloc (.cells #[x, y] t)).cell? ((⟨w.heap.size, 0, none⟩ : Addr).add j) = some u := by
  intro j u hu
  have hb := Blk.new w t #[x, y]
  match j, hu with
  | 0, hu => cases hu; exact hb.cell 0 rfl
  | 1, hu => cases hu; exact hb.cell 1 rfl
theorem two_one {x y : ByteArray} : ∀ u ∈ [Value.string x, Value.string y], u.oneCell' = true := by
  intro u hu
  simp at hu
  rcases hu with rfl | rfl <;> rfl
theorem own_shape {W : World} {base e size n : Nat} {v : Value} {xs : List Value} (h : W.ownsRow base e size v n xs) : ∃ a cap, v = .slice a n cap := by
  obtain ⟨_, ⟨rfl, rfl⟩ | ⟨g, cap, cur, rfl, _⟩⟩ := h
  · exact ⟨none, 0, rfl⟩
  · exact ⟨_, _, rfl⟩
theorem Sc.row_alloc {w : World} {kb mb vb : Nat} {vars : List (List UInt8 × List UInt8)} {v : Value} {N : Nat} {σ : St} {sv : Value} (h : Sc w kb mb vb vars v N σ sv) {o : Obj} : (w.alloc o).ownsRow mb 39 2 sv σ.sets.length (flatP σ.sets) :=
  ownsRow_below h.row ((Below.refl _ w).alloc (Nat.le_refl _) o)

/-- What is set, behind the append and the store. -/
theorem set_fin {w2 w3 : World} {kb mb vb : Nat} {vars : List (List UInt8 × List UInt8)} {v : Value} {M : Nat} {s : List UInt8} {n : Int} {σ : St} {sv nv : Value} {o : Obj}
    (h : Sc w2 kb mb vb vars v (M + 1) ⟨σ.D.put (.string s) (.lit (.int .i64 n)), σ.sets⟩ sv)
    (hown : w3.ownsRow mb 39 2 nv (σ.sets.length + 1) (flatP σ.sets ++ [.string (BA s), .string (BA (textL n))])) (hg : (w2.alloc o).grownBy w3 sv.ownBlock) (hsl : σ.sets.length ≤ M) :
    w3.cell? ⟨kb, 2, none⟩ = some sv ∧ w3.frozen? ⟨kb, 2, none⟩ = false ∧ Below mb w2 (w3.setCell ⟨kb, 2, none⟩ nv) ∧ Sc (w3.setCell ⟨kb, 2, none⟩ nv) kb mb vb vars v (M + 1) (setS s n σ) nv := by
  have ha := h.below ((Below.refl _ w2).alloc (Nat.le_refl _) o)
  have l1 := h.lt1
  have l2 := h.lt2
  have l3 := h.blk.lt
  have hk : some kb ≠ sv.ownBlock := fun e => kb_ne_row ha e.symm
  have hm : some mb ≠ sv.ownBlock := fun e => mb_ne_row ha e.symm
  have hb3 := ha.blk.kept hg hk
  have hlow : ∀ i, i < mb → w3.heap[i]? = w2.heap[i]? := fun i hi => by
    rw [hg.block i (by simp; omega) (fun e => by have := (ownsRow_lt ha.row e.symm).1; omega)]
    exact ((Below.refl _ w2).alloc (Nat.le_refl _) o).block i (by omega)
  have b3 : Below mb w2 w3 := ⟨hg.os, hg.tape, hg.output, Nat.le_trans (by simp) hg.size, hlow⟩
  have gs := grown_setCell w3 ⟨kb, 2, none⟩ nv
  have bs : Below mb w3 (w3.setCell ⟨kb, 2, none⟩ nv) := ⟨gs.os, gs.tape, gs.output, gs.size, fun i hi => gs.block i (by have := hb3.lt; omega) (by simp; omega)⟩
  have hkr : nv.ownBlock ≠ some kb := by
    intro e
    obtain ⟨_, h2 | ⟨g, cap, cur, hv, hg', hc, _⟩⟩ := hown
    · omega
    · rw [hv] at e
      have : g = kb := by simpa [Value.ownBlock] using e
      subst this
      have := hb3.symm.trans hc
      simp at this
  refine ⟨hb3.cell 2 rfl, hb3.frozen 2, b3.trans bs, ?_⟩
  refine ⟨hb3.set 2 nv, (ha.map.kept hg hm).setCell (by show mb ≠ kb; omega) nv, ?_, ?_, ?_, l1, l2, h.vlen, ?_, h.envw.of_blocks (b3.trans bs) h.five, h.five⟩
  · show (w3.setCell ⟨kb, 2, none⟩ nv).ownsRow mb 39 2 nv (σ.sets ++ [(s, textL n)]).length (flatP (σ.sets ++ [(s, textL n)]))
    rw [flatP_snoc, List.length_append]
    exact hown.kept gs (.inr hkr)
  · exact h.vblk.below (b3.trans bs) (by omega)
  · exact h.vrow.below (b3.trans bs) (by omega)
  · show (σ.sets ++ [(s, textL n)]).length ≤ M + 1
    simp
    omega

set_option maxRecDepth 100000 in
set_option maxHeartbeats 40000000 in
theorem set_any (kb mb vb : Nat) (vars : List (List UInt8 × List UInt8)) (v : Value) (M : Nat) (σ : St) (sv : Value) (s : List UInt8) (n : Int) (w : World) (h : Sc w kb mb vb vars v M σ sv) (hs : s.length ≤ 100000) (hM : M ≤ 100000) (hn : I64 n) :
    Calls Tryz.prog 114 #[.pointer (some ⟨kb, 0, none⟩), .string (BA s), .int .i64 n] w fun e w' => e = .returned (.tuple #[]) ∧ Below mb w w' ∧ ∃ sv', Sc w' kb mb vb vars v (M + 1) (setS s n σ) sv' := by
  have hkey := hk_str (BA s) (by rw [BA_size]; unfold maxLen; omega)
  have c1 : w.cell? ⟨kb, 1, none⟩ = some (.map (some mb)) := h.blk.cell 1 rfl
  obtain ⟨w1, hst, hown1, hturn⟩ := h.map.store strKeyed Tryz.underlying60 (by unfold maxLen; omega) hkey (plainElem_int Tryz.underlying3 hn.wf)
  have g1 := hturn.grown
  have hl1 := h.lt1
  have hl2 := h.lt2
  have hkl := h.blk.lt
  have b1 : Below mb w w1 := ⟨g1.os, g1.tape, g1.output, g1.size, fun i hi => g1.block i (by omega) (by simp; omega)⟩
  have h1 : Sc w1 kb mb vb vars v (M + 1) ⟨σ.D.put (.string s) (.lit (.int .i64 n)), σ.sets⟩ sv :=
    ⟨h.blk.kept g1 (by simp; omega), hown1, h.row.kept g1 (.inr (mb_ne_row h)), h.vblk.kept g1 (by simp; omega), h.vrow.below b1 (by omega), hl1, hl2, h.vlen, by have := h.slen; show σ.sets.length ≤ M + 1; omega, h.envw.of_blocks b1 h.five, h.five⟩
  have hsl := h.slen
  obtain ⟨i4, h4i, h4z, h4s, h4b⟩ := info_parts info39
  obtain ⟨sa, sc, rfl⟩ := own_shape h1.row
  have hU := h1.below (below_of_grown (grown_drew' (World.grownBy.refl w1 none)))
  have c2 : w1.cell? ⟨kb, 2, none⟩ = some (.slice sa σ.sets.length sc) := h1.blk.cell 2 rfl
  have HT := hide (text_any n w1.drew hU.envw hn)
  have HU := hide hU
  have B1 := hide b1
  have hw1 : mb ≤ w1.heap.size := by have := h1.blk.lt; omega
  clear h hkey hown1 hturn g1 b1 h1 hU
  go_enter Tryz.func114, Tryz.ntmps114
  go_wp2_with fail
  refine wp_region_held_drew (S := fun _ => True) (by kernel_rfl) trivial (fun hHeld => ?_)
  refine wpAnyH_take (i := 0) (oi := { dst := some 12, op := Op.move (Operand.tmp 0), type := 63, pos := "sum.go:45", after := #[], guard := none }) (v := ?_) rfl (by kernel_rfl) (by kernel_rfl) (by kernel_rfl) (fun _ _ _ h => h) (Or.inl ⟨by rfl, ?_⟩) (by assumption) ?_
  rotate_left
  · intro w hSw; (try dsimp only at hSw); go_simp; (try with_reducible rfl)
  simp only [Act.put, List.setIfInBounds_toArray, List.set_cons_zero, List.set_cons_succ]
  refine wpAnyH_take (i := 1) (oi := { dst := some 13, op := Op.move (Operand.tmp 0), type := 63, pos := "sum.go:45", after := #[], guard := none }) (v := ?_) rfl (by kernel_rfl) (by kernel_rfl) (by kernel_rfl) (fun _ _ _ h => h) (Or.inl ⟨by rfl, ?_⟩) (by assumption) ?_
  rotate_left
  · intro w hSw; (try dsimp only at hSw); go_simp; (try with_reducible rfl)
  simp only [Act.put, List.setIfInBounds_toArray, List.set_cons_zero, List.set_cons_succ]
  refine wpAnyH_take (i := 2) (oi := { dst := some 14, op := Op.nilCheck (Operand.tmp 13), type := 0, pos := "sum.go:45", after := #[{ on := 1, ground := Ground.data }], guard := none }) (v := ?_) rfl (by kernel_rfl) (by kernel_rfl) (by kernel_rfl) (fun _ _ _ h => h) (Or.inl ⟨by rfl, ?_⟩) (by assumption) ?_
  rotate_left
  · intro w hSw; (try dsimp only at hSw); go_simp; (try with_reducible rfl)
  simp only [Act.put, List.setIfInBounds_toArray, List.set_cons_zero, List.set_cons_succ]
  refine wpAnyH_take (i := 3) (oi := { dst := some 15, op := Op.fieldAddr 62 (Operand.tmp 14) 2, type := 0, pos := "sum.go:45", after := #[{ on := 2, ground := Ground.data }], guard := none }) (v := ?_) rfl (by kernel_rfl) (by kernel_rfl) (by kernel_rfl) (fun _ _ _ h => h) (Or.inl ⟨by rfl, ?_⟩) (by assumption) ?_
  rotate_left
  · intro w hSw; (try dsimp only at hSw); go_simp; (try with_reducible rfl)
  simp only [Act.put, List.setIfInBounds_toArray, List.set_cons_zero, List.set_cons_succ]
  refine wpAnyH_take (i := 5) (oi := { dst := some 17, op := Op.move (Operand.tmp 1), type := 9, pos := "sum.go:45", after := #[], guard := none }) (v := ?_) rfl (by kernel_rfl) (by kernel_rfl) (by kernel_rfl) (fun _ _ _ h => h) (Or.inl ⟨by rfl, ?_⟩) (by assumption) ?_
  rotate_left
  · intro w hSw; (try dsimp only at hSw); go_simp; (try with_reducible rfl)
  simp only [Act.put, List.setIfInBounds_toArray, List.set_cons_zero, List.set_cons_succ]
  refine wpAnyH_take (i := 6) (oi := { dst := some 18, op := Op.move (Operand.tmp 2), type := 3, pos := "sum.go:45", after := #[], guard := none }) (v := ?_) rfl (by kernel_rfl) (by kernel_rfl) (by kernel_rfl) (fun _ _ _ h => h) (Or.inl ⟨by rfl, ?_⟩) (by assumption) ?_
  rotate_left
  · intro w hSw; (try dsimp only at hSw); go_simp; (try with_reducible rfl)
  simp only [Act.put, List.setIfInBounds_toArray, List.set_cons_zero, List.set_cons_succ]
  refine wpAnyH_ready (rs := [4, 7]) (by kernel_rfl) (by simp) ?_
  refine AllReadyH.cons (o := { dst := some 16, op := Op.load 27 (Operand.tmp 15), type := 27, pos := "sum.go:45", after := #[{ on := 3, ground := Ground.data }], guard := none }) rfl (fun KK hKK => ?_) (AllReadyH.cons (o := { dst := some 19, op := Op.call { callee := Callee.value (Operand.func 17), args := #[Operand.tmp 18], argTypes := #[3] }, type := 9, pos := "sum.go:45", after := #[{ on := 6, ground := Ground.data }], guard := none }) rfl (fun KK hKK => ?_) AllReadyH.nil)
  · go_simp
    refine hKK.out _ _ trivial (fun hHeld => ?_)
    clear hKK KK
    try simp only [Act.put, List.setIfInBounds_toArray, List.set_cons_zero, List.set_cons_succ]
    refine wpAnyH_ready (rs := [7]) (by kernel_rfl) (by simp) ?_
    refine AllReadyH.cons (o := { dst := some 19, op := Op.call { callee := Callee.value (Operand.func 17), args := #[Operand.tmp 18], argTypes := #[3] }, type := 9, pos := "sum.go:45", after := #[{ on := 6, ground := Ground.data }], guard := none }) rfl (fun KK hKK => ?_) AllReadyH.nil
    go_simp
    refine (unhide HT).mono ?_
    rintro e w2 ⟨rfl, bb2⟩
    have h2 := (unhide HU).below bb2
    have d2 : w2.cell? ⟨kb, 2, none⟩ = some (.slice sa σ.sets.length sc) := h2.blk.cell 2 rfl
    have H2 := hide h2
    have B2 := hide bb2
    clear h2 bb2
    refine hKK.out _ _ trivial (fun hHeld => ?_)
    clear hKK KK
    try simp only [Act.put, List.setIfInBounds_toArray, List.set_cons_zero, List.set_cons_succ]
    refine wpAnyH_take (i := 8) (oi := { dst := some 20, op := Op.build 39 #[(0, Operand.tmp 17), (1, Operand.tmp 19)], type := 39, pos := "sum.go:45", after := #[{ on := 5, ground := Ground.data }, { on := 7, ground := Ground.data }], guard := none }) (v := ?_) rfl (by kernel_rfl) (by kernel_rfl) (by kernel_rfl) (fun _ _ _ h => h) (Or.inl ⟨by rfl, ?_⟩) (by assumption) ?_
    rotate_left
    · intro w hSw; (try dsimp only at hSw); go_simp; (try with_reducible rfl)
    simp only [Act.put, List.setIfInBounds_toArray, List.set_cons_zero, List.set_cons_succ]
    refine wpAnyH_ready (rs := [9]) (by kernel_rfl) (by simp) ?_
    refine AllReadyH.cons (o := { dst := some 21, op := Op.buildSlice 27 1 #[(0, Operand.tmp 20)], type := 27, pos := "sum.go:45", after := #[{ on := 8, ground := Ground.data }], guard := none }) rfl (fun KK hKK => ?_) AllReadyH.nil
    go_simp
    have d3 : (w2.alloc (.cells #[.string (BA s), .string (BA (textL n))] 39)).cell? ⟨kb, 2, none⟩ = some (.slice sa σ.sets.length sc) := ((unhide H2).below ((Below.refl _ w2).alloc (Nat.le_refl _) _)).blk.cell 2 rfl
    refine hKK.out _ _ trivial (fun hHeld => ?_)
    clear hKK KK
    try simp only [Act.put, List.setIfInBounds_toArray, List.set_cons_zero, List.set_cons_succ]
    refine wpAnyH_ready (rs := [10]) (by kernel_rfl) (by simp) ?_
    refine AllReadyH.cons (o := { dst := some 22, op := Op.call { callee := Callee.builtin Builtin.append, args := #[Operand.tmp 16, Operand.tmp 21], argTypes := #[27, 27] }, type := 27, pos := "sum.go:45", after := #[{ on := 4, ground := Ground.data }, { on := 9, ground := Ground.data }, { on := 7, ground := Ground.chain }], guard := none }) rfl (fun KK hKK => ?_) AllReadyH.nil
    refine step_append_lies _ (by rfl) _ _ _ (by rfl) mb 39 i4 _ 2 32 Tryz.underlying27 h4i h4z h4s h4b rfl (by omega) (.slice sa σ.sets.length sc) σ.sets.length (flatP σ.sets) (by simp [Act.eval]) (unhide H2).row_alloc ⟨w2.heap.size, 0, none⟩ 1 1 [.string (BA s), .string (BA (textL n))] (by simp [Act.eval]) rfl two_cells two_one (by omega) (by unfold maxLen; omega) (by omega) (by have := (unhide H2).blk.lt; simp; omega) (w2.heap.size + 1) (by simp) ?_
    intro gg cg w3 hown3 hgrow hat hlt3
    have hf := set_fin (unhide H2) hown3 hgrow (by omega)
    have d4 := hf.1
    have d5 := hf.2.1
    have HF := hide hf.2.2
    clear hown3 hgrow hat hf
    refine hKK.out _ _ trivial (fun hHeld => ?_)
    clear hKK KK
    try simp only [Act.put, List.setIfInBounds_toArray, List.set_cons_zero, List.set_cons_succ]
    refine wpAnyH_take (i := 11) (oi := { dst := some 23, op := Op.nilCheck (Operand.tmp 12), type := 0, pos := "sum.go:45", after := #[{ on := 0, ground := Ground.data }, { on := 0, ground := Ground.phase }, { on := 1, ground := Ground.phase }, { on := 2, ground := Ground.phase }, { on := 3, ground := Ground.phase }, { on := 4, ground := Ground.phase }, { on := 5, ground := Ground.phase }, { on := 6, ground := Ground.phase }, { on := 7, ground := Ground.phase }, { on := 8, ground := Ground.phase }, { on := 9, ground := Ground.phase }, { on := 10, ground := Ground.phase }], guard := none }) (v := ?_) rfl (by kernel_rfl) (by kernel_rfl) (by kernel_rfl) (fun _ _ _ h => h) (Or.inl ⟨by rfl, ?_⟩) (by assumption) ?_
    rotate_left
    · intro w hSw; (try dsimp only at hSw); go_simp; (try with_reducible rfl)
    simp only [Act.put, List.setIfInBounds_toArray, List.set_cons_zero, List.set_cons_succ]
    refine wpAnyH_take (i := 12) (oi := { dst := some 24, op := Op.fieldAddr 62 (Operand.tmp 23) 2, type := 0, pos := "sum.go:45", after := #[{ on := 11, ground := Ground.data }, { on := 0, ground := Ground.phase }, { on := 1, ground := Ground.phase }, { on := 2, ground := Ground.phase }, { on := 3, ground := Ground.phase }, { on := 4, ground := Ground.phase }, { on := 5, ground := Ground.phase }, { on := 6, ground := Ground.phase }, { on := 7, ground := Ground.phase }, { on := 8, ground := Ground.phase }, { on := 9, ground := Ground.phase }, { on := 10, ground := Ground.phase }], guard := none }) (v := ?_) rfl (by kernel_rfl) (by kernel_rfl) (by kernel_rfl) (fun _ _ _ h => h) (Or.inl ⟨by rfl, ?_⟩) (by assumption) ?_
    rotate_left
    · intro w hSw; (try dsimp only at hSw); go_simp; (try with_reducible rfl)
    simp only [Act.put, List.setIfInBounds_toArray, List.set_cons_zero, List.set_cons_succ]
    refine wpAnyH_ready (rs := [13]) (by kernel_rfl) (by simp) ?_
    refine AllReadyH.cons (o := { dst := none, op := Op.store 27 (Operand.tmp 24) (Operand.tmp 22), type := 0, pos := "sum.go:45", after := #[{ on := 12, ground := Ground.data }, { on := 10, ground := Ground.data }, { on := 10, ground := Ground.chain }, { on := 0, ground := Ground.phase }, { on := 1, ground := Ground.phase }, { on := 2, ground := Ground.phase }, { on := 3, ground := Ground.phase }, { on := 4, ground := Ground.phase }, { on := 5, ground := Ground.phase }, { on := 6, ground := Ground.phase }, { on := 7, ground := Ground.phase }, { on := 8, ground := Ground.phase }, { on := 9, ground := Ground.phase }, { on := 10, ground := Ground.phase }], guard := none }) rfl (fun KK hKK => ?_) AllReadyH.nil
    go_simp
    refine hKK.out _ _ trivial (fun hHeld => ?_)
    clear hKK KK hHeld
    refine wpAnyH_done (by kernel_rfl) ?_ _
    clear d4 d5
    go_wp2
    refine bodyPost_end (res0 rfl _ _) rfl ?_
    have hd := unhide HF
    exact ⟨rfl, (unhide B1).trans ((below_of_grown (grown_drew' (World.grownBy.refl w1 none))).mono (by omega) |>.trans (((unhide B2).mono (by show mb ≤ w1.drew.heap.size; show mb ≤ w1.heap.size; omega)).trans hd.1)), _, hd.2⟩
  · go_simp
    refine (unhide HT).mono ?_
    rintro e w2 ⟨rfl, bb2⟩
    have h2 := (unhide HU).below bb2
    have d2 : w2.cell? ⟨kb, 2, none⟩ = some (.slice sa σ.sets.length sc) := h2.blk.cell 2 rfl
    have H2 := hide h2
    have B2 := hide bb2
    clear h2 bb2
    refine hKK.out _ _ trivial (fun hHeld => ?_)
    clear hKK KK
    try simp only [Act.put, List.setIfInBounds_toArray, List.set_cons_zero, List.set_cons_succ]
    refine wpAnyH_take (i := 8) (oi := { dst := some 20, op := Op.build 39 #[(0, Operand.tmp 17), (1, Operand.tmp 19)], type := 39, pos := "sum.go:45", after := #[{ on := 5, ground := Ground.data }, { on := 7, ground := Ground.data }], guard := none }) (v := ?_) rfl (by kernel_rfl) (by kernel_rfl) (by kernel_rfl) (fun _ _ _ h => h) (Or.inl ⟨by rfl, ?_⟩) (by assumption) ?_
    rotate_left
    · intro w hSw; (try dsimp only at hSw); go_simp; (try with_reducible rfl)
    simp only [Act.put, List.setIfInBounds_toArray, List.set_cons_zero, List.set_cons_succ]
    refine wpAnyH_ready (rs := [4, 9]) (by kernel_rfl) (by simp) ?_
    refine AllReadyH.cons (o := { dst := some 16, op := Op.load 27 (Operand.tmp 15), type := 27, pos := "sum.go:45", after := #[{ on := 3, ground := Ground.data }], guard := none }) rfl (fun KK hKK => ?_) (AllReadyH.cons (o := { dst := some 21, op := Op.buildSlice 27 1 #[(0, Operand.tmp 20)], type := 27, pos := "sum.go:45", after := #[{ on := 8, ground := Ground.data }], guard := none }) rfl (fun KK hKK => ?_) AllReadyH.nil)
    · go_simp
      refine hKK.out _ _ trivial (fun hHeld => ?_)
      clear hKK KK
      try simp only [Act.put, List.setIfInBounds_toArray, List.set_cons_zero, List.set_cons_succ]
      refine wpAnyH_ready (rs := [9]) (by kernel_rfl) (by simp) ?_
      refine AllReadyH.cons (o := { dst := some 21, op := Op.buildSlice 27 1 #[(0, Operand.tmp 20)], type := 27, pos := "sum.go:45", after := #[{ on := 8, ground := Ground.data }], guard := none }) rfl (fun KK hKK => ?_) AllReadyH.nil
      go_simp
      have d3 : (w2.alloc (.cells #[.string (BA s), .string (BA (textL n))] 39)).cell? ⟨kb, 2, none⟩ = some (.slice sa σ.sets.length sc) := ((unhide H2).below ((Below.refl _ w2).alloc (Nat.le_refl _) _)).blk.cell 2 rfl
      refine hKK.out _ _ trivial (fun hHeld => ?_)
      clear hKK KK
      try simp only [Act.put, List.setIfInBounds_toArray, List.set_cons_zero, List.set_cons_succ]
      refine wpAnyH_ready (rs := [10]) (by kernel_rfl) (by simp) ?_
      refine AllReadyH.cons (o := { dst := some 22, op := Op.call { callee := Callee.builtin Builtin.append, args := #[Operand.tmp 16, Operand.tmp 21], argTypes := #[27, 27] }, type := 27, pos := "sum.go:45", after := #[{ on := 4, ground := Ground.data }, { on := 9, ground := Ground.data }, { on := 7, ground := Ground.chain }], guard := none }) rfl (fun KK hKK => ?_) AllReadyH.nil
      refine step_append_lies _ (by rfl) _ _ _ (by rfl) mb 39 i4 _ 2 32 Tryz.underlying27 h4i h4z h4s h4b rfl (by omega) (.slice sa σ.sets.length sc) σ.sets.length (flatP σ.sets) (by simp [Act.eval]) (unhide H2).row_alloc ⟨w2.heap.size, 0, none⟩ 1 1 [.string (BA s), .string (BA (textL n))] (by simp [Act.eval]) rfl two_cells two_one (by omega) (by unfold maxLen; omega) (by omega) (by have := (unhide H2).blk.lt; simp; omega) (w2.heap.size + 1) (by simp) ?_
      intro gg cg w3 hown3 hgrow hat hlt3
      have hf := set_fin (unhide H2) hown3 hgrow (by omega)
      have d4 := hf.1
      have d5 := hf.2.1
      have HF := hide hf.2.2
      clear hown3 hgrow hat hf
      refine hKK.out _ _ trivial (fun hHeld => ?_)
      clear hKK KK
      try simp only [Act.put, List.setIfInBounds_toArray, List.set_cons_zero, List.set_cons_succ]
      refine wpAnyH_take (i := 11) (oi := { dst := some 23, op := Op.nilCheck (Operand.tmp 12), type := 0, pos := "sum.go:45", after := #[{ on := 0, ground := Ground.data }, { on := 0, ground := Ground.phase }, { on := 1, ground := Ground.phase }, { on := 2, ground := Ground.phase }, { on := 3, ground := Ground.phase }, { on := 4, ground := Ground.phase }, { on := 5, ground := Ground.phase }, { on := 6, ground := Ground.phase }, { on := 7, ground := Ground.phase }, { on := 8, ground := Ground.phase }, { on := 9, ground := Ground.phase }, { on := 10, ground := Ground.phase }], guard := none }) (v := ?_) rfl (by kernel_rfl) (by kernel_rfl) (by kernel_rfl) (fun _ _ _ h => h) (Or.inl ⟨by rfl, ?_⟩) (by assumption) ?_
      rotate_left
      · intro w hSw; (try dsimp only at hSw); go_simp; (try with_reducible rfl)
      simp only [Act.put, List.setIfInBounds_toArray, List.set_cons_zero, List.set_cons_succ]
      refine wpAnyH_take (i := 12) (oi := { dst := some 24, op := Op.fieldAddr 62 (Operand.tmp 23) 2, type := 0, pos := "sum.go:45", after := #[{ on := 11, ground := Ground.data }, { on := 0, ground := Ground.phase }, { on := 1, ground := Ground.phase }, { on := 2, ground := Ground.phase }, { on := 3, ground := Ground.phase }, { on := 4, ground := Ground.phase }, { on := 5, ground := Ground.phase }, { on := 6, ground := Ground.phase }, { on := 7, ground := Ground.phase }, { on := 8, ground := Ground.phase }, { on := 9, ground := Ground.phase }, { on := 10, ground := Ground.phase }], guard := none }) (v := ?_) rfl (by kernel_rfl) (by kernel_rfl) (by kernel_rfl) (fun _ _ _ h => h) (Or.inl ⟨by rfl, ?_⟩) (by assumption) ?_
      rotate_left
      · intro w hSw; (try dsimp only at hSw); go_simp; (try with_reducible rfl)
      simp only [Act.put, List.setIfInBounds_toArray, List.set_cons_zero, List.set_cons_succ]
      refine wpAnyH_ready (rs := [13]) (by kernel_rfl) (by simp) ?_
      refine AllReadyH.cons (o := { dst := none, op := Op.store 27 (Operand.tmp 24) (Operand.tmp 22), type := 0, pos := "sum.go:45", after := #[{ on := 12, ground := Ground.data }, { on := 10, ground := Ground.data }, { on := 10, ground := Ground.chain }, { on := 0, ground := Ground.phase }, { on := 1, ground := Ground.phase }, { on := 2, ground := Ground.phase }, { on := 3, ground := Ground.phase }, { on := 4, ground := Ground.phase }, { on := 5, ground := Ground.phase }, { on := 6, ground := Ground.phase }, { on := 7, ground := Ground.phase }, { on := 8, ground := Ground.phase }, { on := 9, ground := Ground.phase }, { on := 10, ground := Ground.phase }], guard := none }) rfl (fun KK hKK => ?_) AllReadyH.nil
      go_simp
      refine hKK.out _ _ trivial (fun hHeld => ?_)
      clear hKK KK hHeld
      refine wpAnyH_done (by kernel_rfl) ?_ _
      clear d4 d5
      go_wp2
      refine bodyPost_end (res0 rfl _ _) rfl ?_
      have hd := unhide HF
      exact ⟨rfl, (unhide B1).trans ((below_of_grown (grown_drew' (World.grownBy.refl w1 none))).mono (by omega) |>.trans (((unhide B2).mono (by show mb ≤ w1.drew.heap.size; show mb ≤ w1.heap.size; omega)).trans hd.1)), _, hd.2⟩
    · go_simp
      have d3 : (w2.alloc (.cells #[.string (BA s), .string (BA (textL n))] 39)).cell? ⟨kb, 2, none⟩ = some (.slice sa σ.sets.length sc) := ((unhide H2).below ((Below.refl _ w2).alloc (Nat.le_refl _) _)).blk.cell 2 rfl
      refine hKK.out _ _ trivial (fun hHeld => ?_)
      clear hKK KK
      try simp only [Act.put, List.setIfInBounds_toArray, List.set_cons_zero, List.set_cons_succ]
      refine wpAnyH_ready (rs := [4]) (by kernel_rfl) (by simp) ?_
      refine AllReadyH.cons (o := { dst := some 16, op := Op.load 27 (Operand.tmp 15), type := 27, pos := "sum.go:45", after := #[{ on := 3, ground := Ground.data }], guard := none }) rfl (fun KK hKK => ?_) AllReadyH.nil
      go_simp
      refine hKK.out _ _ trivial (fun hHeld => ?_)
      clear hKK KK
      try simp only [Act.put, List.setIfInBounds_toArray, List.set_cons_zero, List.set_cons_succ]
      refine wpAnyH_ready (rs := [10]) (by kernel_rfl) (by simp) ?_
      refine AllReadyH.cons (o := { dst := some 22, op := Op.call { callee := Callee.builtin Builtin.append, args := #[Operand.tmp 16, Operand.tmp 21], argTypes := #[27, 27] }, type := 27, pos := "sum.go:45", after := #[{ on := 4, ground := Ground.data }, { on := 9, ground := Ground.data }, { on := 7, ground := Ground.chain }], guard := none }) rfl (fun KK hKK => ?_) AllReadyH.nil
      refine step_append_lies _ (by rfl) _ _ _ (by rfl) mb 39 i4 _ 2 32 Tryz.underlying27 h4i h4z h4s h4b rfl (by omega) (.slice sa σ.sets.length sc) σ.sets.length (flatP σ.sets) (by simp [Act.eval]) (unhide H2).row_alloc ⟨w2.heap.size, 0, none⟩ 1 1 [.string (BA s), .string (BA (textL n))] (by simp [Act.eval]) rfl two_cells two_one (by omega) (by unfold maxLen; omega) (by omega) (by have := (unhide H2).blk.lt; simp; omega) (w2.heap.size + 1) (by simp) ?_
      intro gg cg w3 hown3 hgrow hat hlt3
      have hf := set_fin (unhide H2) hown3 hgrow (by omega)
      have d4 := hf.1
      have d5 := hf.2.1
      have HF := hide hf.2.2
      clear hown3 hgrow hat hf
      refine hKK.out _ _ trivial (fun hHeld => ?_)
      clear hKK KK
      try simp only [Act.put, List.setIfInBounds_toArray, List.set_cons_zero, List.set_cons_succ]
      refine wpAnyH_take (i := 11) (oi := { dst := some 23, op := Op.nilCheck (Operand.tmp 12), type := 0, pos := "sum.go:45", after := #[{ on := 0, ground := Ground.data }, { on := 0, ground := Ground.phase }, { on := 1, ground := Ground.phase }, { on := 2, ground := Ground.phase }, { on := 3, ground := Ground.phase }, { on := 4, ground := Ground.phase }, { on := 5, ground := Ground.phase }, { on := 6, ground := Ground.phase }, { on := 7, ground := Ground.phase }, { on := 8, ground := Ground.phase }, { on := 9, ground := Ground.phase }, { on := 10, ground := Ground.phase }], guard := none }) (v := ?_) rfl (by kernel_rfl) (by kernel_rfl) (by kernel_rfl) (fun _ _ _ h => h) (Or.inl ⟨by rfl, ?_⟩) (by assumption) ?_
      rotate_left
      · intro w hSw; (try dsimp only at hSw); go_simp; (try with_reducible rfl)
      simp only [Act.put, List.setIfInBounds_toArray, List.set_cons_zero, List.set_cons_succ]
      refine wpAnyH_take (i := 12) (oi := { dst := some 24, op := Op.fieldAddr 62 (Operand.tmp 23) 2, type := 0, pos := "sum.go:45", after := #[{ on := 11, ground := Ground.data }, { on := 0, ground := Ground.phase }, { on := 1, ground := Ground.phase }, { on := 2, ground := Ground.phase }, { on := 3, ground := Ground.phase }, { on := 4, ground := Ground.phase }, { on := 5, ground := Ground.phase }, { on := 6, ground := Ground.phase }, { on := 7, ground := Ground.phase }, { on := 8, ground := Ground.phase }, { on := 9, ground := Ground.phase }, { on := 10, ground := Ground.phase }], guard := none }) (v := ?_) rfl (by kernel_rfl) (by kernel_rfl) (by kernel_rfl) (fun _ _ _ h => h) (Or.inl ⟨by rfl, ?_⟩) (by assumption) ?_
      rotate_left
      · intro w hSw; (try dsimp only at hSw); go_simp; (try with_reducible rfl)
      simp only [Act.put, List.setIfInBounds_toArray, List.set_cons_zero, List.set_cons_succ]
      refine wpAnyH_ready (rs := [13]) (by kernel_rfl) (by simp) ?_
      refine AllReadyH.cons (o := { dst := none, op := Op.store 27 (Operand.tmp 24) (Operand.tmp 22), type := 0, pos := "sum.go:45", after := #[{ on := 12, ground := Ground.data }, { on := 10, ground := Ground.data }, { on := 10, ground := Ground.chain }, { on := 0, ground := Ground.phase }, { on := 1, ground := Ground.phase }, { on := 2, ground := Ground.phase }, { on := 3, ground := Ground.phase }, { on := 4, ground := Ground.phase }, { on := 5, ground := Ground.phase }, { on := 6, ground := Ground.phase }, { on := 7, ground := Ground.phase }, { on := 8, ground := Ground.phase }, { on := 9, ground := Ground.phase }, { on := 10, ground := Ground.phase }], guard := none }) rfl (fun KK hKK => ?_) AllReadyH.nil
      go_simp
      refine hKK.out _ _ trivial (fun hHeld => ?_)
      clear hKK KK hHeld
      refine wpAnyH_done (by kernel_rfl) ?_ _
      clear d4 d5
      go_wp2
      refine bodyPost_end (res0 rfl _ _) rfl ?_
      have hd := unhide HF
      exact ⟨rfl, (unhide B1).trans ((below_of_grown (grown_drew' (World.grownBy.refl w1 none))).mono (by omega) |>.trans (((unhide B2).mono (by show mb ≤ w1.drew.heap.size; show mb ≤ w1.heap.size; omega)).trans hd.1)), _, hd.2⟩

end Go.Proofs.YtlbpeknncakfeaaGreatDoor

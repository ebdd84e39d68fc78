/-
  The closure that ends a field.
-/
import Derived.Test.YtpljphbaibncjaaSState
namespace Go.Proofs.Ytpljphbaibncjaa
open Go.RowKit

theorem end_below {w w1 : World} (h : Below w.drew.heap.size w.drew w1) : Below w.heap.size w w1 := ⟨h.os, h.tape, h.output, h.size, h.block⟩
theorem two_cells {w : World} {x y : Value} {t : TypeId} : ∀ j u, [x, y][j]? = some u → (w.alloc (.cells #[x, y] t)).cell? ((⟨w.heap.size, 0, none⟩ : Addr).add j) = some u := by
  intro j u hj
  rw [add_at]
  exact Blk.cell (Blk.new w t #[x, y]) j (by simpa using hj)
theorem two_is {x : ByteArray} {a : Option Addr} {n c : Nat} : ∀ u ∈ [Value.string x, Value.slice a n c], u.oneCell' = true := by
  intro u hu
  simp at hu
  rcases hu with rfl | rfl <;> rfl
theorem end_mid {w w1 w2 : World} {B bo bm bt : Nat} {s : SS} {L : List (Fd × Value)} {ov tv qv : Value} {o : Obj} (h : FSg w B bo bm bt s L ov tv qv) (hb : Below w.drew.heap.size w.drew w1) (hg : (w1.alloc o).grownBy w2 ov.ownBlock) :
    Blk w2 bo 27 #[ov] ∧ Blk w2 bm 50 #[tv, qv] ∧ Blk w2 bt 4 #[.bool s.there] := by
  have h1 := (h.kept (end_below hb)).kept ((Below.refl _ _).alloc (Nat.le_refl _) o)
  have g1 : GrownS (w1.alloc o) w2 (fun k => some k = ov.ownBlock) := GrownS.of hg (fun _ e => e)
  exact ⟨h1.ob.grownS g1 (own_type h1.row h1.ob (by decide)), h1.mb.grownS g1 (own_type h1.row h1.mb (by decide)), h1.tb.grownS g1 (own_type h1.row h1.tb (by decide))⟩
theorem end_fin {w w1 w2 : World} {B bo bm bt n g cg : Nat} {s : SS} {L : List (Fd × Value)} {ov tv qv : Value} {o : Obj} (h : FSg w B bo bm bt s L ov tv qv) (hn : L.length = n) (hm : Blk w2 bo 27 #[ov] ∧ Blk w2 bm 50 #[tv, qv] ∧ Blk w2 bt 4 #[.bool s.there]) (hg : (w1.alloc o).grownBy w2 ov.ownBlock) (hb : Below w.drew.heap.size w.drew w1)
    (hown : w2.ownsRow B 34 2 (.slice (some ⟨g, 0, none⟩) (n + 1) cg) (n + 1) (flatF L ++ [.string (BA (ftx s.made)), qv])) :
    FS ((((w2.setCell ⟨bo, 0, none⟩ (.slice (some ⟨g, 0, none⟩) (n + 1) cg)).setCell ⟨bm, 0, none⟩ (.slice none 0 0)).setCell ⟨bm, 1, none⟩ (.slice none 0 0)).setCell ⟨bt, 0, none⟩ (.bool false)) B bo bm bt (endS s) ∧
      Turn w ((((w2.setCell ⟨bo, 0, none⟩ (.slice (some ⟨g, 0, none⟩) (n + 1) cg)).setCell ⟨bm, 0, none⟩ (.slice none 0 0)).setCell ⟨bm, 1, none⟩ (.slice none 0 0)).setCell ⟨bt, 0, none⟩ (.bool false)) B := by
  obtain ⟨ko, km, kt⟩ := hm
  have h1 := (h.kept (end_below hb)).kept ((Below.refl _ _).alloc (Nat.le_refl _) o)
  have g0 : Below w.heap.size w (w1.alloc o) := (end_below hb).alloc (end_below hb).size o
  have g1 : GrownS (w1.alloc o) w2 (fun k => some k = ov.ownBlock) := GrownS.of hg (fun _ e => e)
  have ne : ∀ {k k' t t' cs cs'}, Blk w2 k t cs → Blk w2 k' t' cs' → t ≠ t' → k ≠ k' := fun hk hk' ht e => by
    subst e
    have := hk.symm.trans hk'
    injection this with this
    injection this with _ this _
    exact ht this
  have nom := ne ko km (by decide)
  have nmt := ne km kt (by decide)
  have not := ne ko kt (by decide)
  have ga := setb_grown w2 bo 0 (.slice (some ⟨g, 0, none⟩) (n + 1) cg)
  have gb := setb_grown (w2.setCell ⟨bo, 0, none⟩ (.slice (some ⟨g, 0, none⟩) (n + 1) cg)) bm 0 (.slice none 0 0)
  have gc := setb_grown ((w2.setCell ⟨bo, 0, none⟩ (.slice (some ⟨g, 0, none⟩) (n + 1) cg)).setCell ⟨bm, 0, none⟩ (.slice none 0 0)) bm 1 (.slice none 0 0)
  have gd := setb_grown (((w2.setCell ⟨bo, 0, none⟩ (.slice (some ⟨g, 0, none⟩) (n + 1) cg)).setCell ⟨bm, 0, none⟩ (.slice none 0 0)).setCell ⟨bm, 1, none⟩ (.slice none 0 0)) bt 0 (.bool false)
  have g2 : GrownS w2 ((((w2.setCell ⟨bo, 0, none⟩ (.slice (some ⟨g, 0, none⟩) (n + 1) cg)).setCell ⟨bm, 0, none⟩ (.slice none 0 0)).setCell ⟨bm, 1, none⟩ (.slice none 0 0)).setCell ⟨bt, 0, none⟩ (.bool false)) (fun k => k = bo ∨ k = bm ∨ k = bt) :=
    ((((ga.mono (fun k _ e => .inl e)).trans (gb.mono (fun k _ e => .inr (.inl e)))).trans (gc.mono (fun k _ e => .inr (.inl e)))).trans (gd.mono (fun k _ e => .inr (.inr e))))
  refine ⟨⟨L ++ [(s.made, qv)], .slice (some ⟨g, 0, none⟩) (n + 1) cg, .slice none 0 0, .slice none 0 0, ⟨?_, ?_, ?_, ?_, ownB_nil _ _, ownQ_nil _ _, ?_, ?_, (fun e => by cases e), h.lo⟩⟩, ⟨?_, ?_⟩⟩
  · have := ((((ko.set 0 (.slice (some ⟨g, 0, none⟩) (n + 1) cg)).grownS gb nom).grownS gc nom).grownS gd not)
    simpa using this
  · have := (((km.grownS ga nom.symm).set 0 (.slice none 0 0)).set 1 (.slice none 0 0)).grownS gd nmt
    simpa using this
  · have := (((kt.grownS ga not.symm).grownS gb nmt.symm).grownS gc nmt.symm).set 0 (.bool false)
    show Blk _ bt 4 #[.bool false]
    simpa using this
  · rw [flatF_snoc, List.length_append, hn]
    refine own_grownS hown g2 ?_
    rintro k hk (e | e | e)
    · exact own_type hown ko (by decide) (by rw [← e]; exact hk.symm)
    · exact own_type hown km (by decide) (by rw [← e]; exact hk.symm)
    · exact own_type hown kt (by decide) (by rw [← e]; exact hk.symm)
  · rw [List.map_append, h.out]
    rfl
  · have each : ∀ (v : Value) (l : List Bool), OwnQ w B v l → v.ownBlock ≠ some bt → OwnQ ((((w2.setCell ⟨bo, 0, none⟩ (.slice (some ⟨g, 0, none⟩) (n + 1) cg)).setCell ⟨bm, 0, none⟩ (.slice none 0 0)).setCell ⟨bm, 1, none⟩ (.slice none 0 0)).setCell ⟨bt, 0, none⟩ (.bool false)) B v l := by
      intro v l hv hvt
      have v1 : OwnQ (w1.alloc o) B v l := own_grownS (S := fun _ => False) hv (grownS_of_below g0) (fun _ _ e => e)
      have v2 : OwnQ w2 B v l := own_grownS v1 g1 (fun k hk e => own_apart v1 h1.row (by decide) hk e.symm)
      refine own_grownS v2 g2 ?_
      rintro k hk (e | e | e)
      · exact own_type v2 ko (by decide) (by rw [← e]; exact hk.symm)
      · exact own_type v2 km (by decide) (by rw [← e]; exact hk.symm)
      · exact hvt (by rw [← e]; exact hk)
    intro x hx
    rcases List.mem_append.1 hx with hx | hx
    · exact ⟨each _ _ (h.sub x hx).1 (h.sub x hx).2.1, (h.sub x hx).2.1, (fun k _ e => by cases e)⟩
    · simp at hx
      subst hx
      exact ⟨each _ _ h.oq h.qb, h.qb, (fun k _ e => by cases e)⟩
  · have hB : B ≤ w.heap.size := by have := h.ob.lt; have := h.lo.1; omega
    have s1 := g0.size
    refine (g0.mono hB).trans ((g1.below (by omega) (fun k e => (World.ownsRow.lt h1.row k e.symm).1)).trans (g2.below (by have := g1.size; omega) ?_))
    rintro k (e | e | e)
    · rw [e]; exact h.lo.1
    · rw [e]; exact h.lo.2.1
    · rw [e]; exact h.lo.2.2
  · intro k t cs hk ht
    have k1 : Blk (w1.alloc o) k t cs := hk.below g0 hk.lt
    have k2 : Blk w2 k t cs := k1.grownS g1 (own_type h1.row k1 ht.2.2.2.2)
    refine k2.grownS g2 ?_
    rintro (e | e | e)
    · exact ne k2 ko ht.1 e
    · exact ne k2 km ht.2.1 e
    · exact ne k2 kt ht.2.2.1 e

set_option maxRecDepth 20000 in
set_option maxHeartbeats 4000000 in
theorem end_any (w : World) (B bo bm bt : Nat) (s : SS) (h : FS w B bo bm bt s) (hl : sizS s ≤ 1000000) :
    Calls Try.prog 19 #[.pointer (some ⟨bo, 0, none⟩), .pointer (some ⟨bm, 0, none⟩), .pointer (some ⟨bt, 0, none⟩)] w fun e w' => e = .returned (.tuple #[]) ∧ FS w' B bo bm bt (endS s) ∧ Turn w w' B := by
  obtain ⟨L, ov, tv, qv, h⟩ := h
  obtain ⟨iT, hiT, hzT0, hzT1, hzT2⟩ := info_of info_field
  obtain ⟨n, hn⟩ : ∃ n, L.length = n := ⟨_, rfl⟩
  have HROW : Hid (w.ownsRow B 34 2 ov n (flatF L)) := hide (by rw [← hn]; exact h.row)
  have hnl : n ≤ 1000000 := by
    have := congrArg List.length h.out
    rw [List.length_map] at this
    unfold sizS at hl
    omega
  obtain ⟨oa, oc, rfl⟩ := own_slice (unhide HROW)
  obtain ⟨ta, tn, tc, rfl⟩ := slice_own h.own
  obtain ⟨qa, qn, qc, rfl⟩ := slice_own h.oq
  have HF := hide (field_any w.drew B bm _ _ _ _ (show Blk w.drew bm 50 _ from h.mb) (own_drew h.own) (own_drew h.oq))
  have HN := hide hn
  have H := hide h
  have c0 : w.cell? ⟨bo, 0, none⟩ = some (.slice oa n oc) := h.ob.cell 0 rfl
  have hB : B ≤ w.heap.size := by have := h.ob.lt; have := h.lo.1; omega
  have HNE : Hid (bo ≠ bm ∧ bt ≠ bo ∧ bt ≠ bm) := hide (by
    have ne : ∀ {k k' t t' cs cs'}, Blk w k t cs → Blk w k' t' cs' → t ≠ t' → k ≠ k' := fun hk hk' ht e => by
      subst e
      have := hk.symm.trans hk'
      injection this with this
      injection this with _ this _
      exact ht this
    exact ⟨ne h.ob h.mb (by decide), ne h.tb h.ob (by decide), ne h.tb h.mb (by decide)⟩)
  clear h hn hl
  go_enter Try.func19, Try.ntmps19
  go_wp2_with fail
  refine wp_region_held_drew (S := fun _ => True) (by kernel_rfl) trivial (fun hHeld => ?_)
  refine wpAnyH_ready (rs := [0, 1]) (by kernel_rfl) (by simp) ?_
  refine AllReadyH.cons (o := { dst := some 3, op := Op.load 27 (Operand.tmp 0), type := 27, pos := "split.go:27", after := #[], guard := none }) rfl (fun KK hKK => ?_) (AllReadyH.cons (o := { dst := some 4, op := Op.call { callee := Callee.value (Operand.func 20), args := #[Operand.tmp 1], argTypes := #[50] }, type := 34, pos := "split.go:27", after := #[], guard := none }) rfl (fun KK hKK => ?_) AllReadyH.nil)
  · go_simp
    refine hKK.out _ _ trivial (fun hHeld => ?_)
    clear hKK KK
    try simp only [Act.put, List.setIfInBounds_toArray, List.set_cons_zero, List.set_cons_succ]
    refine wpAnyH_ready (rs := [1]) (by kernel_rfl) (by simp) ?_
    refine AllReadyH.cons (o := { dst := some 4, op := Op.call { callee := Callee.value (Operand.func 20), args := #[Operand.tmp 1], argTypes := #[50] }, type := 34, pos := "split.go:27", after := #[], guard := none }) rfl (fun KK hKK => ?_) AllReadyH.nil
    go_simp
    refine (unhide HF).mono ?_
    rintro e w1 ⟨rfl, hB1⟩
    have HB1 := hide hB1
    have c01 : w1.cell? ⟨bo, 0, none⟩ = some (.slice oa n oc) := (Blk.below (show Blk w.drew bo 27 _ from (unhide H).ob) hB1 (show bo < w.heap.size from (unhide H).ob.lt)).cell 0 rfl
    have c02 : (w1.alloc (.cells #[.string (BA (ftx s.made)), .slice qa qn qc] 34)).cell? ⟨bo, 0, none⟩ = some (.slice oa n oc) := cell_alloc c01 _
    clear hB1
    refine hKK.out _ _ trivial (fun hHeld => ?_)
    clear hKK KK
    try simp only [Act.put, List.setIfInBounds_toArray, List.set_cons_zero, List.set_cons_succ]
    refine wpAnyH_ready (rs := [2]) (by kernel_rfl) (by simp) ?_
    refine AllReadyH.cons (o := { dst := some 5, op := Op.buildSlice 27 1 #[(0, Operand.tmp 4)], type := 27, pos := "split.go:27", after := #[{ on := 1, ground := Ground.data }], guard := none }) rfl (fun KK hKK => ?_) AllReadyH.nil
    go_simp
    refine hKK.out _ _ trivial (fun hHeld => ?_)
    clear hKK KK
    try simp only [Act.put, List.setIfInBounds_toArray, List.set_cons_zero, List.set_cons_succ]
    refine wpAnyH_ready (rs := [3]) (by kernel_rfl) (by simp) ?_
    refine AllReadyH.cons (o := { dst := some 6, op := Op.call { callee := Callee.builtin Builtin.append, args := #[Operand.tmp 3, Operand.tmp 5], argTypes := #[27, 27] }, type := 27, pos := "split.go:27", after := #[{ on := 0, ground := Ground.data }, { on := 2, ground := Ground.data }, { on := 1, ground := Ground.chain }], guard := none }) rfl (fun KK hKK => ?_) AllReadyH.nil
    refine step_append_lies _ (by rfl) _ _ _ (by rfl) B 34 iT _ 2 40 und_fields hiT hzT0 hzT1 hzT2 rfl (by decide) (.slice oa n oc) n (flatF L) (by simp [Act.eval]) (World.ownsRow.alloc (own_grownS (S := fun _ => False) (unhide HROW) (grownS_of_below (end_below (unhide HB1))) (fun _ _ e => e)) _) ⟨w1.heap.size, 0, none⟩ 1 1 [.string (BA (ftx s.made)), .slice qa qn qc] (by simp [Act.eval]) rfl two_cells two_is (by decide) (by unfold maxLen; omega) (by omega) (by have h1 := (end_below (unhide HB1)).size; simp; omega) (w1.heap.size + 1) (by simp) ?_
    intro g cg w2 hown2 hgrow hat hlt2
    have HM := hide (end_mid (unhide H) (unhide HB1) hgrow)
    have HO2 := hide hown2
    have HG := hide hgrow
    have d0 : w2.cell? ⟨bo, 0, none⟩ = some (.slice oa n oc) := (unhide HM).1.cell 0 rfl
    have z0 : w2.frozen? ⟨bo, 0, none⟩ = false := (unhide HM).1.frozen 0
    clear hown2 hgrow hat hlt2
    refine hKK.out _ _ trivial (fun hHeld => ?_)
    clear hKK KK
    try simp only [Act.put, List.setIfInBounds_toArray, List.set_cons_zero, List.set_cons_succ]
    refine wpAnyH_ready (rs := [4]) (by kernel_rfl) (by simp) ?_
    refine AllReadyH.cons (o := { dst := none, op := Op.store 27 (Operand.tmp 0) (Operand.tmp 6), type := 0, pos := "split.go:27", after := #[{ on := 3, ground := Ground.data }, { on := 3, ground := Ground.chain }, { on := 0, ground := Ground.phase }, { on := 1, ground := Ground.phase }, { on := 2, ground := Ground.phase }, { on := 3, ground := Ground.phase }], guard := none }) rfl (fun KK hKK => ?_) AllReadyH.nil
    go_simp
    refine hKK.out _ _ trivial (fun hHeld => ?_)
    clear hKK KK
    try simp only [Act.put, List.setIfInBounds_toArray, List.set_cons_zero, List.set_cons_succ]
    clear hHeld
    refine wpAnyH_done (by kernel_rfl) ?_ _
    have e0 : (w2.setCell ⟨bo, 0, none⟩ (.slice (some ⟨g, 0, none⟩) (n + 1) cg)).cell? ⟨bm, 0, none⟩ = some (.slice ta tn tc) := ((unhide HM).2.1.grownS (setb_grown _ _ _ _) (unhide HNE).1.symm).cell 0 rfl
    have e1 : (w2.setCell ⟨bo, 0, none⟩ (.slice (some ⟨g, 0, none⟩) (n + 1) cg)).cell? ⟨bm, 1, none⟩ = some (.slice qa qn qc) := ((unhide HM).2.1.grownS (setb_grown _ _ _ _) (unhide HNE).1.symm).cell 1 rfl
    have y0 : (w2.setCell ⟨bo, 0, none⟩ (.slice (some ⟨g, 0, none⟩) (n + 1) cg)).frozen? ⟨bm, 0, none⟩ = false := ((unhide HM).2.1.grownS (setb_grown _ _ _ _) (unhide HNE).1.symm).frozen 0
    have y1 : (w2.setCell ⟨bo, 0, none⟩ (.slice (some ⟨g, 0, none⟩) (n + 1) cg)).frozen? ⟨bm, 1, none⟩ = false := ((unhide HM).2.1.grownS (setb_grown _ _ _ _) (unhide HNE).1.symm).frozen 1
    have HE := hide (end_fin (unhide H) (unhide HN) (unhide HM) (unhide HG) (unhide HB1) (unhide HO2))
    obtain ⟨w3, hw3⟩ : ∃ x, x = w2.setCell ⟨bo, 0, none⟩ (.slice (some ⟨g, 0, none⟩) (n + 1) cg) := ⟨_, rfl⟩
    rw [← hw3] at e0 e1 y0 y1 HE ⊢
    have u0 : ((w3.setCell ⟨bm, 0, none⟩ (.slice none 0 0)).setCell ⟨bm, 1, none⟩ (.slice none 0 0)).cell? ⟨bt, 0, none⟩ = some (.bool s.there) := by rw [hw3]; exact ((((unhide HM).2.2.grownS (setb_grown _ _ _ _) (unhide HNE).2.1).grownS (setb_grown _ _ _ _) (unhide HNE).2.2).grownS (setb_grown _ _ _ _) (unhide HNE).2.2).cell 0 rfl
    have x0 : ((w3.setCell ⟨bm, 0, none⟩ (.slice none 0 0)).setCell ⟨bm, 1, none⟩ (.slice none 0 0)).frozen? ⟨bt, 0, none⟩ = false := by rw [hw3]; exact ((((unhide HM).2.2.grownS (setb_grown _ _ _ _) (unhide HNE).2.1).grownS (setb_grown _ _ _ _) (unhide HNE).2.2).grownS (setb_grown _ _ _ _) (unhide HNE).2.2).frozen 0
    clear hw3 d0 z0 c0 c01 c02
    go_wp2
    refine bodyPost_end (res0 rfl _ _) rfl ?_
    exact ⟨rfl, unhide HE⟩
  · go_simp
    refine (unhide HF).mono ?_
    rintro e w1 ⟨rfl, hB1⟩
    have HB1 := hide hB1
    have c01 : w1.cell? ⟨bo, 0, none⟩ = some (.slice oa n oc) := (Blk.below (show Blk w.drew bo 27 _ from (unhide H).ob) hB1 (show bo < w.heap.size from (unhide H).ob.lt)).cell 0 rfl
    have c02 : (w1.alloc (.cells #[.string (BA (ftx s.made)), .slice qa qn qc] 34)).cell? ⟨bo, 0, none⟩ = some (.slice oa n oc) := cell_alloc c01 _
    clear hB1
    refine hKK.out _ _ trivial (fun hHeld => ?_)
    clear hKK KK
    try simp only [Act.put, List.setIfInBounds_toArray, List.set_cons_zero, List.set_cons_succ]
    refine wpAnyH_ready (rs := [0, 2]) (by kernel_rfl) (by simp) ?_
    refine AllReadyH.cons (o := { dst := some 3, op := Op.load 27 (Operand.tmp 0), type := 27, pos := "split.go:27", after := #[], guard := none }) rfl (fun KK hKK => ?_) (AllReadyH.cons (o := { dst := some 5, op := Op.buildSlice 27 1 #[(0, Operand.tmp 4)], type := 27, pos := "split.go:27", after := #[{ on := 1, ground := Ground.data }], guard := none }) rfl (fun KK hKK => ?_) AllReadyH.nil)
    · go_simp
      refine hKK.out _ _ trivial (fun hHeld => ?_)
      clear hKK KK
      try simp only [Act.put, List.setIfInBounds_toArray, List.set_cons_zero, List.set_cons_succ]
      refine wpAnyH_ready (rs := [2]) (by kernel_rfl) (by simp) ?_
      refine AllReadyH.cons (o := { dst := some 5, op := Op.buildSlice 27 1 #[(0, Operand.tmp 4)], type := 27, pos := "split.go:27", after := #[{ on := 1, ground := Ground.data }], guard := none }) rfl (fun KK hKK => ?_) AllReadyH.nil
      go_simp
      refine hKK.out _ _ trivial (fun hHeld => ?_)
      clear hKK KK
      try simp only [Act.put, List.setIfInBounds_toArray, List.set_cons_zero, List.set_cons_succ]
      refine wpAnyH_ready (rs := [3]) (by kernel_rfl) (by simp) ?_
      refine AllReadyH.cons (o := { dst := some 6, op := Op.call { callee := Callee.builtin Builtin.append, args := #[Operand.tmp 3, Operand.tmp 5], argTypes := #[27, 27] }, type := 27, pos := "split.go:27", after := #[{ on := 0, ground := Ground.data }, { on := 2, ground := Ground.data }, { on := 1, ground := Ground.chain }], guard := none }) rfl (fun KK hKK => ?_) AllReadyH.nil
      refine step_append_lies _ (by rfl) _ _ _ (by rfl) B 34 iT _ 2 40 und_fields hiT hzT0 hzT1 hzT2 rfl (by decide) (.slice oa n oc) n (flatF L) (by simp [Act.eval]) (World.ownsRow.alloc (own_grownS (S := fun _ => False) (unhide HROW) (grownS_of_below (end_below (unhide HB1))) (fun _ _ e => e)) _) ⟨w1.heap.size, 0, none⟩ 1 1 [.string (BA (ftx s.made)), .slice qa qn qc] (by simp [Act.eval]) rfl two_cells two_is (by decide) (by unfold maxLen; omega) (by omega) (by have h1 := (end_below (unhide HB1)).size; simp; omega) (w1.heap.size + 1) (by simp) ?_
      intro g cg w2 hown2 hgrow hat hlt2
      have HM := hide (end_mid (unhide H) (unhide HB1) hgrow)
      have HO2 := hide hown2
      have HG := hide hgrow
      have d0 : w2.cell? ⟨bo, 0, none⟩ = some (.slice oa n oc) := (unhide HM).1.cell 0 rfl
      have z0 : w2.frozen? ⟨bo, 0, none⟩ = false := (unhide HM).1.frozen 0
      clear hown2 hgrow hat hlt2
      refine hKK.out _ _ trivial (fun hHeld => ?_)
      clear hKK KK
      try simp only [Act.put, List.setIfInBounds_toArray, List.set_cons_zero, List.set_cons_succ]
      refine wpAnyH_ready (rs := [4]) (by kernel_rfl) (by simp) ?_
      refine AllReadyH.cons (o := { dst := none, op := Op.store 27 (Operand.tmp 0) (Operand.tmp 6), type := 0, pos := "split.go:27", after := #[{ on := 3, ground := Ground.data }, { on := 3, ground := Ground.chain }, { on := 0, ground := Ground.phase }, { on := 1, ground := Ground.phase }, { on := 2, ground := Ground.phase }, { on := 3, ground := Ground.phase }], guard := none }) rfl (fun KK hKK => ?_) AllReadyH.nil
      go_simp
      refine hKK.out _ _ trivial (fun hHeld => ?_)
      clear hKK KK
      try simp only [Act.put, List.setIfInBounds_toArray, List.set_cons_zero, List.set_cons_succ]
      clear hHeld
      refine wpAnyH_done (by kernel_rfl) ?_ _
      have e0 : (w2.setCell ⟨bo, 0, none⟩ (.slice (some ⟨g, 0, none⟩) (n + 1) cg)).cell? ⟨bm, 0, none⟩ = some (.slice ta tn tc) := ((unhide HM).2.1.grownS (setb_grown _ _ _ _) (unhide HNE).1.symm).cell 0 rfl
      have e1 : (w2.setCell ⟨bo, 0, none⟩ (.slice (some ⟨g, 0, none⟩) (n + 1) cg)).cell? ⟨bm, 1, none⟩ = some (.slice qa qn qc) := ((unhide HM).2.1.grownS (setb_grown _ _ _ _) (unhide HNE).1.symm).cell 1 rfl
      have y0 : (w2.setCell ⟨bo, 0, none⟩ (.slice (some ⟨g, 0, none⟩) (n + 1) cg)).frozen? ⟨bm, 0, none⟩ = false := ((unhide HM).2.1.grownS (setb_grown _ _ _ _) (unhide HNE).1.symm).frozen 0
      have y1 : (w2.setCell ⟨bo, 0, none⟩ (.slice (some ⟨g, 0, none⟩) (n + 1) cg)).frozen? ⟨bm, 1, none⟩ = false := ((unhide HM).2.1.grownS (setb_grown _ _ _ _) (unhide HNE).1.symm).frozen 1
      have HE := hide (end_fin (unhide H) (unhide HN) (unhide HM) (unhide HG) (unhide HB1) (unhide HO2))
      obtain ⟨w3, hw3⟩ : ∃ x, x = w2.setCell ⟨bo, 0, none⟩ (.slice (some ⟨g, 0, none⟩) (n + 1) cg) := ⟨_, rfl⟩
      rw [← hw3] at e0 e1 y0 y1 HE ⊢
      have u0 : ((w3.setCell ⟨bm, 0, none⟩ (.slice none 0 0)).setCell ⟨bm, 1, none⟩ (.slice none 0 0)).cell? ⟨bt, 0, none⟩ = some (.bool s.there) := by rw [hw3]; exact ((((unhide HM).2.2.grownS (setb_grown _ _ _ _) (unhide HNE).2.1).grownS (setb_grown _ _ _ _) (unhide HNE).2.2).grownS (setb_grown _ _ _ _) (unhide HNE).2.2).cell 0 rfl
      have x0 : ((w3.setCell ⟨bm, 0, none⟩ (.slice none 0 0)).setCell ⟨bm, 1, none⟩ (.slice none 0 0)).frozen? ⟨bt, 0, none⟩ = false := by rw [hw3]; exact ((((unhide HM).2.2.grownS (setb_grown _ _ _ _) (unhide HNE).2.1).grownS (setb_grown _ _ _ _) (unhide HNE).2.2).grownS (setb_grown _ _ _ _) (unhide HNE).2.2).frozen 0
      clear hw3 d0 z0 c0 c01 c02
      go_wp2
      refine bodyPost_end (res0 rfl _ _) rfl ?_
      exact ⟨rfl, unhide HE⟩
    · go_simp
      refine hKK.out _ _ trivial (fun hHeld => ?_)
      clear hKK KK
      try simp only [Act.put, List.setIfInBounds_toArray, List.set_cons_zero, List.set_cons_succ]
      refine wpAnyH_ready (rs := [0]) (by kernel_rfl) (by simp) ?_
      refine AllReadyH.cons (o := { dst := some 3, op := Op.load 27 (Operand.tmp 0), type := 27, pos := "split.go:27", after := #[], guard := none }) rfl (fun KK hKK => ?_) AllReadyH.nil
      go_simp
      refine hKK.out _ _ trivial (fun hHeld => ?_)
      clear hKK KK
      try simp only [Act.put, List.setIfInBounds_toArray, List.set_cons_zero, List.set_cons_succ]
      refine wpAnyH_ready (rs := [3]) (by kernel_rfl) (by simp) ?_
      refine AllReadyH.cons (o := { dst := some 6, op := Op.call { callee := Callee.builtin Builtin.append, args := #[Operand.tmp 3, Operand.tmp 5], argTypes := #[27, 27] }, type := 27, pos := "split.go:27", after := #[{ on := 0, ground := Ground.data }, { on := 2, ground := Ground.data }, { on := 1, ground := Ground.chain }], guard := none }) rfl (fun KK hKK => ?_) AllReadyH.nil
      refine step_append_lies _ (by rfl) _ _ _ (by rfl) B 34 iT _ 2 40 und_fields hiT hzT0 hzT1 hzT2 rfl (by decide) (.slice oa n oc) n (flatF L) (by simp [Act.eval]) (World.ownsRow.alloc (own_grownS (S := fun _ => False) (unhide HROW) (grownS_of_below (end_below (unhide HB1))) (fun _ _ e => e)) _) ⟨w1.heap.size, 0, none⟩ 1 1 [.string (BA (ftx s.made)), .slice qa qn qc] (by simp [Act.eval]) rfl two_cells two_is (by decide) (by unfold maxLen; omega) (by omega) (by have h1 := (end_below (unhide HB1)).size; simp; omega) (w1.heap.size + 1) (by simp) ?_
      intro g cg w2 hown2 hgrow hat hlt2
      have HM := hide (end_mid (unhide H) (unhide HB1) hgrow)
      have HO2 := hide hown2
      have HG := hide hgrow
      have d0 : w2.cell? ⟨bo, 0, none⟩ = some (.slice oa n oc) := (unhide HM).1.cell 0 rfl
      have z0 : w2.frozen? ⟨bo, 0, none⟩ = false := (unhide HM).1.frozen 0
      clear hown2 hgrow hat hlt2
      refine hKK.out _ _ trivial (fun hHeld => ?_)
      clear hKK KK
      try simp only [Act.put, List.setIfInBounds_toArray, List.set_cons_zero, List.set_cons_succ]
      refine wpAnyH_ready (rs := [4]) (by kernel_rfl) (by simp) ?_
      refine AllReadyH.cons (o := { dst := none, op := Op.store 27 (Operand.tmp 0) (Operand.tmp 6), type := 0, pos := "split.go:27", after := #[{ on := 3, ground := Ground.data }, { on := 3, ground := Ground.chain }, { on := 0, ground := Ground.phase }, { on := 1, ground := Ground.phase }, { on := 2, ground := Ground.phase }, { on := 3, ground := Ground.phase }], guard := none }) rfl (fun KK hKK => ?_) AllReadyH.nil
      go_simp
      refine hKK.out _ _ trivial (fun hHeld => ?_)
      clear hKK KK
      try simp only [Act.put, List.setIfInBounds_toArray, List.set_cons_zero, List.set_cons_succ]
      clear hHeld
      refine wpAnyH_done (by kernel_rfl) ?_ _
      have e0 : (w2.setCell ⟨bo, 0, none⟩ (.slice (some ⟨g, 0, none⟩) (n + 1) cg)).cell? ⟨bm, 0, none⟩ = some (.slice ta tn tc) := ((unhide HM).2.1.grownS (setb_grown _ _ _ _) (unhide HNE).1.symm).cell 0 rfl
      have e1 : (w2.setCell ⟨bo, 0, none⟩ (.slice (some ⟨g, 0, none⟩) (n + 1) cg)).cell? ⟨bm, 1, none⟩ = some (.slice qa qn qc) := ((unhide HM).2.1.grownS (setb_grown _ _ _ _) (unhide HNE).1.symm).cell 1 rfl
      have y0 : (w2.setCell ⟨bo, 0, none⟩ (.slice (some ⟨g, 0, none⟩) (n + 1) cg)).frozen? ⟨bm, 0, none⟩ = false := ((unhide HM).2.1.grownS (setb_grown _ _ _ _) (unhide HNE).1.symm).frozen 0
      have y1 : (w2.setCell ⟨bo, 0, none⟩ (.slice (some ⟨g, 0, none⟩) (n + 1) cg)).frozen? ⟨bm, 1, none⟩ = false := ((unhide HM).2.1.grownS (setb_grown _ _ _ _) (unhide HNE).1.symm).frozen 1
      have HE := hide (end_fin (unhide H) (unhide HN) (unhide HM) (unhide HG) (unhide HB1) (unhide HO2))
      obtain ⟨w3, hw3⟩ : ∃ x, x = w2.setCell ⟨bo, 0, none⟩ (.slice (some ⟨g, 0, none⟩) (n + 1) cg) := ⟨_, rfl⟩
      rw [← hw3] at e0 e1 y0 y1 HE ⊢
      have u0 : ((w3.setCell ⟨bm, 0, none⟩ (.slice none 0 0)).setCell ⟨bm, 1, none⟩ (.slice none 0 0)).cell? ⟨bt, 0, none⟩ = some (.bool s.there) := by rw [hw3]; exact ((((unhide HM).2.2.grownS (setb_grown _ _ _ _) (unhide HNE).2.1).grownS (setb_grown _ _ _ _) (unhide HNE).2.2).grownS (setb_grown _ _ _ _) (unhide HNE).2.2).cell 0 rfl
      have x0 : ((w3.setCell ⟨bm, 0, none⟩ (.slice none 0 0)).setCell ⟨bm, 1, none⟩ (.slice none 0 0)).frozen? ⟨bt, 0, none⟩ = false := by rw [hw3]; exact ((((unhide HM).2.2.grownS (setb_grown _ _ _ _) (unhide HNE).2.1).grownS (setb_grown _ _ _ _) (unhide HNE).2.2).grownS (setb_grown _ _ _ _) (unhide HNE).2.2).frozen 0
      clear hw3 d0 z0 c0 c01 c02
      go_wp2
      refine bodyPost_end (res0 rfl _ _) rfl ?_
      exact ⟨rfl, unhide HE⟩

end Go.Proofs.Ytpljphbaibncjaa

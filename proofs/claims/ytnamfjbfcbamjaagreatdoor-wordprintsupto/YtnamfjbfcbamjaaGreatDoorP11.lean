/-
  A part more: package word's (*list).add.
-/
import Derived.Test.YtnamfjbfcbamjaaGreatDoorP10
namespace Go.Proofs.YtnamfjbfcbamjaaGreatDoor
open Go.RowKit
set_option maxRecDepth 100000 in
set_option maxHeartbeats 40000000 in
theorem ladd_on (w : World) (b : Nat) (X A : Nat → Prop) (L : List (Prt × Value)) (bs : List UInt8) (ps : List Prt) (pv bv x : Value) (p : Prt) (h : LSg w b X L bs pv bv) (hps : (setL L bs).map Prod.fst = ps) (hbs : litB L = false → bs = []) (hx : PV w A x p) (hA : ∀ k, A k → InW b X w k) (hl : ps.length ≤ 100000) (ht : tlen ps + p.text.length ≤ 1000000) (hgo : goesB L p = true) :
    Calls Tryz.prog 41 #[.pointer (some ⟨b, 0, none⟩), x] w fun e w' => e = .returned (.tuple #[]) ∧ ∃ X', LSt w' b X' (addP ps p) ∧ GrownS w w' X ∧ ∀ k, X' k → X k ∨ w.heap.size ≤ k := by
  obtain ⟨i0, hi, hz0, hz1, hz2⟩ := info_of info_byte
  have hLl : L.length ≤ 100000 := by rw [← hps, List.length_map, setL_len] at hl; exact hl
  have hbl0 := bs_len hps hbs
  have HLT : Hid (bs.length + p.text.length ≤ 1000000) := hide (by omega)
  obtain ⟨v, rfl, hsub⟩ := hx
  obtain ⟨va, vc, rfl, _⟩ := hsub.len
  obtain ⟨vn, hvn⟩ : ∃ n, n = p.sub.length := ⟨_, rfl⟩
  rw [← hvn] at hsub ⊢
  obtain ⟨ba, bn, bc, hbv⟩ := h.bshape
  subst hbv
  have hbl := h.blk.lt
  have HQB : Hid (¬ w.heap.size = b) := hide (by omega)
  have HPS := hide hps
  have HGO := hide hgo
  have hbox : Box (w.alloc (.cells #[.int .i64 p.kind, .string (BA p.text), .bool p.quote, .int .i64 p.op, .bool p.colon, .slice va vn vc] 37)) w.heap.size p (.slice va vn vc) := Blk.new w _ _
  have HC : Hid (∀ o, Calls Tryz.prog 62 #[.pointer (some ⟨b, 0, none⟩), .agg #[.int .i64 p.kind, .string (BA p.text), .bool p.quote, .int .i64 p.op, .bool p.colon, .slice va vn vc]] (w.alloc o) fun e w' => e = .returned (.bool true) ∧ Below (w.alloc o).heap.size (w.alloc o) w') := hide (fun o => by
    rw [← hgo]
    exact goesOn_any _ b X A L bs pv _ _ p (h.below ((Below.refl _ _).alloc (Nat.le_refl _) _)) ⟨_, rfl, hsub.below ((Below.refl _ _).alloc (Nat.le_refl _) _) (fun k hk => (hA k hk).2.1)⟩ hLl)
  have HB0 : Hid (LSg (w.alloc (.cells #[.int .i64 p.kind, .string (BA p.text), .bool p.quote, .int .i64 p.op, .bool p.colon, .slice va vn vc] 37)) b X L bs pv (.slice ba bn bc) ∧ Box (w.alloc (.cells #[.int .i64 p.kind, .string (BA p.text), .bool p.quote, .int .i64 p.op, .bool p.colon, .slice va vn vc] 37)) w.heap.size p (.slice va vn vc)) := hide ⟨h.below ((Below.refl _ _).alloc (Nat.le_refl _) _), hbox⟩
  have hk1 : (p.kind == 1) = true := by
    unfold goesB at hgo
    split at hgo
    · cases hgo
    · simp at hgo; simp [hgo.1]
  have HBS : Hid (∀ k, Value.ownBlock (.slice ba bn bc) = some k → X k) := hide h.xv
  clear hsub hps hbs hgo hbox h hl ht hbl0 hA hvn hLl
  go_enter Tryz.func41, Tryz.ntmps41
  go_wp2_with fail
  refine ((unhide HC) _).mono ?_
  rintro e w2 ⟨rfl, b2⟩
  have HG2 : Hid (GrownS w w2 X) := hide (grownS_of_below (((Below.refl _ _).alloc (Nat.le_refl _) _).trans (b2.mono (by simp))))
  have H5 : Hid (LSg w2 b X L bs pv (.slice ba bn bc) ∧ Box w2 w.heap.size p (.slice va vn vc)) := hide ⟨(unhide HB0).1.below b2, Blk.below (unhide HB0).2 b2 (by simp)⟩
  have f1 : w2.cell? ⟨b, 1, none⟩ = some (.slice ba bn bc) := (unhide H5).1.blk.cell 1 rfl
  have q0 : w2.cell? ⟨w.heap.size, 0, none⟩ = some (.int .i64 p.kind) := (unhide H5).2.six.1
  clear b2 HC HB0
  go_wp2_with fail
  refine wp_region_held_drew (S := fun w' => Box w' w.heap.size p (.slice va vn vc)) (by kernel_rfl) (by exact (unhide H5).2) (fun hHeld => ?_)
  refine wpAnyH_take (i := 0) (oi := { dst := some 24, op := Op.move (Operand.tmp 0), type := 91, pos := "read.go:69", after := #[], guard := none }) (v := ?_) rfl (by kernel_rfl) (by kernel_rfl) (by kernel_rfl) (fun _ _ _ h => h) (Or.inl ⟨by rfl, ?_⟩) (by assumption) ?_
  rotate_left
  · intro w hSw; obtain ⟨s0, s1, s2, s3, s4, s5⟩ := Box.six hSw; go_simp; (try with_reducible rfl)
  simp only [Act.put, List.setIfInBounds_toArray, List.set_cons_zero, List.set_cons_succ]
  refine wpAnyH_take (i := 1) (oi := { dst := some 25, op := Op.move (Operand.tmp 0), type := 91, pos := "read.go:69", after := #[], guard := none }) (v := ?_) rfl (by kernel_rfl) (by kernel_rfl) (by kernel_rfl) (fun _ _ _ h => h) (Or.inl ⟨by rfl, ?_⟩) (by assumption) ?_
  rotate_left
  · intro w hSw; obtain ⟨s0, s1, s2, s3, s4, s5⟩ := Box.six hSw; go_simp; (try with_reducible rfl)
  simp only [Act.put, List.setIfInBounds_toArray, List.set_cons_zero, List.set_cons_succ]
  refine wpAnyH_take (i := 2) (oi := { dst := some 26, op := Op.nilCheck (Operand.tmp 25), type := 0, pos := "read.go:69", after := #[⟨1, .data⟩], guard := none }) (v := ?_) rfl (by kernel_rfl) (by kernel_rfl) (by kernel_rfl) (fun _ _ _ h => h) (Or.inl ⟨by rfl, ?_⟩) (by assumption) ?_
  rotate_left
  · intro w hSw; obtain ⟨s0, s1, s2, s3, s4, s5⟩ := Box.six hSw; go_simp; (try with_reducible rfl)
  simp only [Act.put, List.setIfInBounds_toArray, List.set_cons_zero, List.set_cons_succ]
  refine wpAnyH_take (i := 3) (oi := { dst := some 27, op := Op.fieldAddr 72 (Operand.tmp 26) 1, type := 0, pos := "read.go:69", after := #[⟨2, .data⟩], guard := none }) (v := ?_) rfl (by kernel_rfl) (by kernel_rfl) (by kernel_rfl) (fun _ _ _ h => h) (Or.inl ⟨by rfl, ?_⟩) (by assumption) ?_
  rotate_left
  · intro w hSw; obtain ⟨s0, s1, s2, s3, s4, s5⟩ := Box.six hSw; go_simp; (try with_reducible rfl)
  simp only [Act.put, List.setIfInBounds_toArray, List.set_cons_zero, List.set_cons_succ]
  refine wpAnyH_take (i := 5) (oi := { dst := some 29, op := Op.fieldAddr 37 (Operand.tmp 3) 1, type := 0, pos := "read.go:69", after := #[], guard := none }) (v := ?_) rfl (by kernel_rfl) (by kernel_rfl) (by kernel_rfl) (fun _ _ _ h => h) (Or.inl ⟨by rfl, ?_⟩) (by assumption) ?_
  rotate_left
  · intro w hSw; obtain ⟨s0, s1, s2, s3, s4, s5⟩ := Box.six hSw; go_simp; (try with_reducible rfl)
  simp only [Act.put, List.setIfInBounds_toArray, List.set_cons_zero, List.set_cons_succ]
  refine wpAnyH_take (i := 6) (oi := { dst := some 30, op := Op.load 9 (Operand.tmp 29), type := 9, pos := "read.go:69", after := #[⟨5, .data⟩], guard := none }) (v := ?_) rfl (by kernel_rfl) (by kernel_rfl) (by kernel_rfl) (fun _ _ _ h => h) (Or.inl ⟨by rfl, ?_⟩) (by assumption) ?_
  rotate_left
  · intro w hSw; obtain ⟨s0, s1, s2, s3, s4, s5⟩ := Box.six hSw; go_simp; (try with_reducible rfl)
  simp only [Act.put, List.setIfInBounds_toArray, List.set_cons_zero, List.set_cons_succ]
  refine wpAnyH_ready (rs := [4]) (by kernel_rfl) (by simp) ?_
  refine AllReadyH.cons (o := { dst := some 28, op := Op.load 49 (Operand.tmp 27), type := 49, pos := "read.go:69", after := #[⟨3, .data⟩], guard := none }) rfl (fun KK hKK => ?_) AllReadyH.nil
  go_simp
  refine hKK.out _ _ (by exact (unhide H5).2) (fun hHeld => ?_)
  clear hKK KK
  try simp only [Act.put, List.setIfInBounds_toArray, List.set_cons_zero, List.set_cons_succ]
  refine wpAnyH_ready (rs := [7]) (by kernel_rfl) (by simp) ?_
  refine AllReadyH.cons (o := { dst := some 31, op := Op.call { callee := Callee.builtin Builtin.append, args := #[Operand.tmp 28, Operand.tmp 30], argTypes := #[49, 9] }, type := 49, pos := "read.go:69", after := #[⟨4, .data⟩, ⟨6, .data⟩], guard := none }) rfl (fun KK hKK => ?_) AllReadyH.nil
  refine step_append_str (by rfl) _ _ _ _ (by rfl) (b + 1) 5 i0 und_bytes und_str hi hz0 hz1 hz2 (.slice ba bn bc) (List.length bs) (Lib.byteCells bs) (by simp [Act.eval]) (own_drew (unhide H5).1.own) (BA p.text) (by simp [Act.eval]) (by have h1 := unhide HLT; unfold maxLen; simp at h1 ⊢; omega) (by have h1 := unhide HLT; simp at h1 ⊢; omega) (by have h1 := (unhide H5).1.blk.lt; simp; omega) ?_
  intro v6 w6 hown6 hgrow6 hat6
  obtain ⟨v6a, v6n, v6c, hv6⟩ := slice_own hown6
  subst hv6
  have H7 := hide ((unhide H5).1.setB (w1 := w6) ((grownS_of_below (below_drew _ 1)).trans (GrownS.of hgrow6 (fun _ e => e))) (own_push (l := bs) (c := p.text) (by simp) rfl hown6) hat6)
  have H6X := hide hat6
  have f6 : w6.cell? ⟨b, 1, none⟩ = some (.slice ba bn bc) := (Blk.kept (blk_drew (unhide H5).1.blk) hgrow6 (own_type (own_drew (unhide H5).1.own) (blk_drew (unhide H5).1.blk) (by decide))).cell 1 rfl
  have y6 : w6.frozen? ⟨b, 1, none⟩ = false := (Blk.kept (blk_drew (unhide H5).1.blk) hgrow6 (own_type (own_drew (unhide H5).1.own) (blk_drew (unhide H5).1.blk) (by decide))).frozen 1
  have HB6 : Hid (Box w6 w.heap.size p (.slice va vn vc)) := hide (Blk.kept (blk_drew (unhide H5).2) hgrow6 (own_type (own_drew (unhide H5).1.own) (blk_drew (unhide H5).2) (by decide)))
  clear hown6 hgrow6 hat6
  refine hKK.out _ _ (by exact unhide HB6) (fun hHeld => ?_)
  clear hKK KK
  try simp only [Act.put, List.setIfInBounds_toArray, List.set_cons_zero, List.set_cons_succ]
  refine wpAnyH_take (i := 8) (oi := { dst := some 32, op := Op.nilCheck (Operand.tmp 24), type := 0, pos := "read.go:69", after := #[⟨0, .data⟩, ⟨0, .phase⟩, ⟨1, .phase⟩, ⟨2, .phase⟩, ⟨3, .phase⟩, ⟨4, .phase⟩, ⟨5, .phase⟩, ⟨6, .phase⟩, ⟨7, .phase⟩], guard := none }) (v := ?_) rfl (by kernel_rfl) (by kernel_rfl) (by kernel_rfl) (fun _ _ _ h => h) (Or.inl ⟨by rfl, ?_⟩) (by assumption) ?_
  rotate_left
  · intro w hSw; obtain ⟨s0, s1, s2, s3, s4, s5⟩ := Box.six hSw; go_simp; (try with_reducible rfl)
  simp only [Act.put, List.setIfInBounds_toArray, List.set_cons_zero, List.set_cons_succ]
  refine wpAnyH_take (i := 9) (oi := { dst := some 33, op := Op.fieldAddr 72 (Operand.tmp 32) 1, type := 0, pos := "read.go:69", after := #[⟨8, .data⟩, ⟨0, .phase⟩, ⟨1, .phase⟩, ⟨2, .phase⟩, ⟨3, .phase⟩, ⟨4, .phase⟩, ⟨5, .phase⟩, ⟨6, .phase⟩, ⟨7, .phase⟩], guard := none }) (v := ?_) rfl (by kernel_rfl) (by kernel_rfl) (by kernel_rfl) (fun _ _ _ h => h) (Or.inl ⟨by rfl, ?_⟩) (by assumption) ?_
  rotate_left
  · intro w hSw; obtain ⟨s0, s1, s2, s3, s4, s5⟩ := Box.six hSw; go_simp; (try with_reducible rfl)
  simp only [Act.put, List.setIfInBounds_toArray, List.set_cons_zero, List.set_cons_succ]
  refine wpAnyH_ready (rs := [10]) (by kernel_rfl) (by simp) ?_
  refine AllReadyH.cons (o := { dst := none, op := Op.store 49 (Operand.tmp 33) (Operand.tmp 31), type := 0, pos := "read.go:69", after := #[⟨9, .data⟩, ⟨7, .data⟩, ⟨7, .chain⟩, ⟨0, .phase⟩, ⟨1, .phase⟩, ⟨2, .phase⟩, ⟨3, .phase⟩, ⟨4, .phase⟩, ⟨5, .phase⟩, ⟨6, .phase⟩, ⟨7, .phase⟩], guard := none }) rfl (fun KK hKK => ?_) AllReadyH.nil
  go_simp
  refine hKK.out _ _ (by exact Blk.grownS (unhide HB6) (setb_grown _ _ _ _) (unhide HQB)) (fun hHeld => ?_)
  clear hKK KK
  try simp only [Act.put, List.setIfInBounds_toArray, List.set_cons_zero, List.set_cons_succ]
  clear hHeld
  refine wpAnyH_done (by kernel_rfl) ?_ _
  go_wp2
  refine bodyPost_end (res0 rfl _ _) rfl ?_
  exact ⟨rfl, end_on (unhide HPS) (unhide HGO) (unhide HBS) (unhide H7).1 (unhide HG2) (unhide H7).2 (unhide H6X)⟩
set_option maxRecDepth 100000 in
set_option maxHeartbeats 40000000 in
theorem ladd_oth (w : World) (b : Nat) (X A : Nat → Prop) (L : List (Prt × Value)) (bs : List UInt8) (ps : List Prt) (pv bv x : Value) (p : Prt) (h : LSg w b X L bs pv bv) (hps : (setL L bs).map Prod.fst = ps) (hbs : litB L = false → bs = []) (hx : PV w A x p) (hA : ∀ k, A k → InW b X w k) (hl : ps.length ≤ 100000) (ht : tlen ps + p.text.length ≤ 1000000) (hgo : goesB L p = false) (hkk : (p.kind == 1) = false) :
    Calls Tryz.prog 41 #[.pointer (some ⟨b, 0, none⟩), x] w fun e w' => e = .returned (.tuple #[]) ∧ ∃ X', LSt w' b X' (addP ps p) ∧ GrownS w w' X ∧ ∀ k, X' k → X k ∨ w.heap.size ≤ k := by
  obtain ⟨i0, hi, hz0, hz1, hz2⟩ := info_of info_byte
  have hLl : L.length ≤ 100000 := by rw [← hps, List.length_map, setL_len] at hl; exact hl
  have hbl0 := bs_len hps hbs
  have HLT : Hid (([] : List UInt8).length + p.text.length ≤ 1000000) := hide (by simp; omega)
  obtain ⟨v, rfl, hsub⟩ := hx
  obtain ⟨va, vc, rfl, _⟩ := hsub.len
  obtain ⟨vn, hvn⟩ : ∃ n, n = p.sub.length := ⟨_, rfl⟩
  rw [← hvn] at hsub ⊢
  obtain ⟨ba, bn, bc, hbv⟩ := h.bshape
  subst hbv
  have hbl := h.blk.lt
  have HQB : Hid (¬ w.heap.size = b) := hide (by omega)
  have HPS := hide hps
  have HGO := hide hgo
  have hbox : Box (w.alloc (.cells #[.int .i64 p.kind, .string (BA p.text), .bool p.quote, .int .i64 p.op, .bool p.colon, .slice va vn vc] 37)) w.heap.size p (.slice va vn vc) := Blk.new w _ _
  have HC : Hid (∀ o, Calls Tryz.prog 62 #[.pointer (some ⟨b, 0, none⟩), .agg #[.int .i64 p.kind, .string (BA p.text), .bool p.quote, .int .i64 p.op, .bool p.colon, .slice va vn vc]] (w.alloc o) fun e w' => e = .returned (.bool false) ∧ Below (w.alloc o).heap.size (w.alloc o) w') := hide (fun o => by
    rw [← hgo]
    exact goesOn_any _ b X A L bs pv _ _ p (h.below ((Below.refl _ _).alloc (Nat.le_refl _) _)) ⟨_, rfl, hsub.below ((Below.refl _ _).alloc (Nat.le_refl _) _) (fun k hk => (hA k hk).2.1)⟩ hLl)
  have HB0 : Hid (LSg (w.alloc (.cells #[.int .i64 p.kind, .string (BA p.text), .bool p.quote, .int .i64 p.op, .bool p.colon, .slice va vn vc] 37)) b X L bs pv (.slice ba bn bc) ∧ Box (w.alloc (.cells #[.int .i64 p.kind, .string (BA p.text), .bool p.quote, .int .i64 p.op, .bool p.colon, .slice va vn vc] 37)) w.heap.size p (.slice va vn vc)) := hide ⟨h.below ((Below.refl _ _).alloc (Nat.le_refl _) _), hbox⟩
  obtain ⟨iT, hiT, hzT0, hzT1, hzT2⟩ := info_of info_part
  have HKK := hide hkk
  have HXQ : Hid (¬ X w.heap.size) := hide (fun e => by have := h.hi _ e; omega)
  have HS0 : Hid (WAt w A (.slice va vn vc) p.sub ∧ ∀ k, A k → InW b X w k) := hide ⟨hsub, hA⟩
  have HLL := hide hLl
  clear hsub hps hbs hgo hbox h hl ht hbl0 hA hvn hLl
  go_enter Tryz.func41, Tryz.ntmps41
  go_wp2_with fail
  refine ((unhide HC) _).mono ?_
  rintro e w1 ⟨rfl, b1⟩
  have HG1 : Hid (Below w.heap.size w w1) := hide (((Below.refl _ _).alloc (Nat.le_refl _) _).trans (b1.mono (by simp)))
  have H1 : Hid (LSg w1 b X L bs pv (.slice ba bn bc) ∧ Box w1 w.heap.size p (.slice va vn vc)) := hide ⟨(unhide HB0).1.below b1, Blk.below (unhide HB0).2 b1 (by simp)⟩
  clear b1 HC HB0
  go_wp2_with fail
  refine (settle_any w1 b X L bs pv _ (unhide H1).1 (unhide HLL)).mono ?_
  rintro e w2 ⟨rfl, h2, g2⟩
  have HG2 : Hid (GrownS w w2 X) := hide ((grownS_of_below (unhide HG1)).trans g2)
  have HBX : Hid (Box w2 w.heap.size p (.slice va vn vc)) := hide (Blk.grownS (unhide H1).2 g2 (unhide HXQ))
  have HSUB : Hid (WAt w2 A (.slice va vn vc) p.sub) := hide ((unhide HS0).1.kept (fun k hk => (unhide HG2).block k ((unhide HS0).2 k hk).2.1 ((unhide HS0).2 k hk).2.2) (fun _ h => h))
  have HIN : Hid (∀ k, A k → InW b X w2 k) := hide (fun k hk => ⟨((unhide HS0).2 k hk).1, Nat.lt_of_lt_of_le ((unhide HS0).2 k hk).2.1 (unhide HG2).size, ((unhide HS0).2 k hk).2.2⟩)
  obtain ⟨L2, hL2⟩ : ∃ x, x = setL L bs := ⟨_, rfl⟩
  rw [← hL2] at h2
  obtain ⟨ad, cap, rfl, _⟩ := h2.pshape
  obtain ⟨n, hn⟩ : ∃ n, L2.length = n := ⟨_, rfl⟩
  rw [hn] at h2
  have hnl : n ≤ 100000 := by rw [← hn, hL2, setL_len]; exact unhide HLL
  have HROW : Hid (w2.ownsRow (b + 1) 37 6 (.slice ad n cap) n (flatP L2)) := hide (by have := h2.row; rwa [hn] at this)
  have c0 : w2.cell? ⟨b, 0, none⟩ = some (.slice ad n cap) := h2.blk.cell 0 rfl
  have hb2 := h2.blk.lt
  have HPS2 : Hid (L2 = setL L bs) := hide hL2
  have HN := hide hn
  have hnn : (n : Int) < (n : Int) + 1 := by omega
  have H2 := hide h2
  clear h2 g2 H1 HG1 hn hL2 HS0 hbl
  go_wp2_with fail
  refine wp_region_held_drew (S := fun w' => Box w' w.heap.size p (.slice va vn vc)) (by kernel_rfl) (by exact unhide HBX) (fun hHeld => ?_)
  refine wpAnyH_take (i := 0) (oi := { dst := some 10, op := Op.move (Operand.tmp 0), type := 91, pos := "read.go:66", after := #[], guard := none }) (v := ?_) rfl (by kernel_rfl) (by kernel_rfl) (by kernel_rfl) (fun _ _ _ h => h) (Or.inl ⟨by rfl, ?_⟩) (by assumption) ?_
  rotate_left
  · intro w hSw; obtain ⟨s0, s1, s2, s3, s4, s5⟩ := Box.six hSw; go_simp; (try with_reducible rfl)
  simp only [Act.put, List.setIfInBounds_toArray, List.set_cons_zero, List.set_cons_succ]
  refine wpAnyH_take (i := 1) (oi := { dst := some 11, op := Op.nilCheck (Operand.tmp 10), type := 0, pos := "read.go:66", after := #[⟨0, .data⟩], guard := none }) (v := ?_) rfl (by kernel_rfl) (by kernel_rfl) (by kernel_rfl) (fun _ _ _ h => h) (Or.inl ⟨by rfl, ?_⟩) (by assumption) ?_
  rotate_left
  · intro w hSw; obtain ⟨s0, s1, s2, s3, s4, s5⟩ := Box.six hSw; go_simp; (try with_reducible rfl)
  simp only [Act.put, List.setIfInBounds_toArray, List.set_cons_zero, List.set_cons_succ]
  refine wpAnyH_take (i := 2) (oi := { dst := some 12, op := Op.fieldAddr 72 (Operand.tmp 11) 0, type := 0, pos := "read.go:66", after := #[⟨1, .data⟩], guard := none }) (v := ?_) rfl (by kernel_rfl) (by kernel_rfl) (by kernel_rfl) (fun _ _ _ h => h) (Or.inl ⟨by rfl, ?_⟩) (by assumption) ?_
  rotate_left
  · intro w hSw; obtain ⟨s0, s1, s2, s3, s4, s5⟩ := Box.six hSw; go_simp; (try with_reducible rfl)
  simp only [Act.put, List.setIfInBounds_toArray, List.set_cons_zero, List.set_cons_succ]
  refine wpAnyH_take (i := 4) (oi := { dst := some 14, op := Op.load 37 (Operand.tmp 3), type := 37, pos := "read.go:66", after := #[], guard := none }) (v := ?_) rfl (by kernel_rfl) (by kernel_rfl) (by kernel_rfl) (fun _ _ _ h => h) (Or.inl ⟨by rfl, ?_⟩) (by assumption) ?_
  rotate_left
  · intro w hSw; obtain ⟨s0, s1, s2, s3, s4, s5⟩ := Box.six hSw; go_simp; (try with_reducible rfl)
  simp only [Act.put, List.setIfInBounds_toArray, List.set_cons_zero, List.set_cons_succ]
  refine wpAnyH_ready (rs := [3, 6]) (by kernel_rfl) (by simp) ?_
  refine AllReadyH.cons (o := { dst := some 13, op := Op.load 24 (Operand.tmp 12), type := 24, pos := "read.go:66", after := #[⟨2, .data⟩], guard := none }) rfl (fun KK hKK => ?_) (AllReadyH.cons (o := { dst := some 16, op := Op.buildSlice 24 1 #[(0, Operand.const (Value.agg #[Value.int IntKind.i64 0, Value.string { data := #[] }, Value.bool false, Value.int IntKind.i64 0, Value.bool false, Value.slice none 0 0]))], type := 24, pos := "read.go:66", after := #[], guard := none }) rfl (fun KK hKK => ?_) AllReadyH.nil)
  · go_simp
    refine hKK.out _ _ (by exact unhide HBX) (fun hHeld => ?_)
    clear hKK KK
    try simp only [Act.put, List.setIfInBounds_toArray, List.set_cons_zero, List.set_cons_succ]
    refine wpAnyH_take (i := 5) (oi := { dst := some 15, op := Op.call { callee := Callee.builtin Builtin.len, args := #[Operand.tmp 13], argTypes := #[24] }, type := 3, pos := "read.go:66", after := #[⟨3, .data⟩], guard := none }) (v := ?_) rfl (by kernel_rfl) (by kernel_rfl) (by kernel_rfl) (fun _ _ _ h => h) (Or.inl ⟨by rfl, ?_⟩) (by assumption) ?_
    rotate_left
    · intro w hSw; obtain ⟨s0, s1, s2, s3, s4, s5⟩ := Box.six hSw; go_simp; (try with_reducible rfl)
    simp only [Act.put, List.setIfInBounds_toArray, List.set_cons_zero, List.set_cons_succ]
    refine wpAnyH_ready (rs := [6]) (by kernel_rfl) (by simp) ?_
    refine AllReadyH.cons (o := { dst := some 16, op := Op.buildSlice 24 1 #[(0, Operand.const (Value.agg #[Value.int IntKind.i64 0, Value.string { data := #[] }, Value.bool false, Value.int IntKind.i64 0, Value.bool false, Value.slice none 0 0]))], type := 24, pos := "read.go:66", after := #[], guard := none }) rfl (fun KK hKK => ?_) AllReadyH.nil
    go_simp
    have c0a : (w2.alloc (.cells #[.int .i64 0, .string ⟨#[]⟩, .bool false, .int .i64 0, .bool false, .slice none 0 0] 37)).cell? ⟨b, 0, none⟩ = some (.slice ad n cap) := cell_alloc c0 _
    have HBX1 : Hid (Box (w2.alloc (.cells #[.int .i64 0, .string ⟨#[]⟩, .bool false, .int .i64 0, .bool false, .slice none 0 0] 37)) w.heap.size p (.slice va vn vc)) := hide (Blk.alloc (unhide HBX) _)
    refine hKK.out _ _ (by exact unhide HBX1) (fun hHeld => ?_)
    clear hKK KK
    try simp only [Act.put, List.setIfInBounds_toArray, List.set_cons_zero, List.set_cons_succ]
    refine wpAnyH_ready (rs := [7]) (by kernel_rfl) (by simp) ?_
    refine AllReadyH.cons (o := { dst := some 17, op := Op.call { callee := Callee.builtin Builtin.append, args := #[Operand.tmp 13, Operand.tmp 16], argTypes := #[24, 24] }, type := 24, pos := "read.go:66", after := #[⟨3, .data⟩, ⟨6, .data⟩, ⟨0, .phase⟩, ⟨1, .phase⟩, ⟨2, .phase⟩, ⟨3, .phase⟩, ⟨4, .phase⟩, ⟨5, .phase⟩, ⟨6, .phase⟩], guard := none }) rfl (fun KK hKK => ?_) AllReadyH.nil
    refine step_append_lies _ (by rfl) _ _ _ (by rfl) (b + 1) 37 iT _ 6 72 und_word hiT hzT0 hzT1 hzT2 rfl (by decide) (.slice ad n cap) n (flatP L2) (by simp [Act.eval]) (own_drew (World.ownsRow.alloc (unhide HROW) _)) ⟨w2.heap.size, 0, none⟩ 1 1 [.int .i64 0, .string ⟨#[]⟩, .bool false, .int .i64 0, .bool false, .slice none 0 0] (by simp [Act.eval]) rfl six_cells zero_is (by decide) (by unfold maxLen; omega) (by omega) (by simp; omega) (w2.heap.size + 1) (by simp) ?_
    intro g cg w3 hown3 hgrow hat hlt3
    have HM := hide (add_mid (unhide H2) hown3 hgrow hat (unhide HBX) (unhide HXQ))
    have HO3 := hide hown3
    have d0 : w3.cell? ⟨b, 0, none⟩ = some (.slice ad n cap) := (unhide HM).blk.cell 0 rfl
    have z0 : w3.frozen? ⟨b, 0, none⟩ = false := (unhide HM).blk.frozen 0
    have e0 := own_cell (j := n * 6) (unhide HO3) (zero_at (unhide HN) 0)
    have e1 := own_cell (j := n * 6 + 1) (unhide HO3) (zero_at (unhide HN) 1)
    have e2 := own_cell (j := n * 6 + 2) (unhide HO3) (zero_at (unhide HN) 2)
    have e3 := own_cell (j := n * 6 + 3) (unhide HO3) (zero_at (unhide HN) 3)
    have e4 := own_cell (j := n * 6 + 4) (unhide HO3) (zero_at (unhide HN) 4)
    have e5 := own_cell (j := n * 6 + 5) (unhide HO3) (zero_at (unhide HN) 5)
    obtain ⟨e0a, e0b⟩ := e0
    obtain ⟨e1a, e1b⟩ := e1
    obtain ⟨e2a, e2b⟩ := e2
    obtain ⟨e3a, e3b⟩ := e3
    obtain ⟨e4a, e4b⟩ := e4
    obtain ⟨e5a, e5b⟩ := e5
    clear hown3 hgrow hat hlt3
    refine hKK.out _ _ (by exact (unhide HM).box) (fun hHeld => ?_)
    clear hKK KK
    try simp only [Act.put, List.setIfInBounds_toArray, List.set_cons_zero, List.set_cons_succ]
    refine wpAnyH_take (i := 8) (oi := { dst := some 18, op := Op.indexAddr 24 (Operand.tmp 17) (Operand.tmp 15), type := 0, pos := "read.go:66", after := #[⟨7, .data⟩, ⟨5, .data⟩, ⟨0, .phase⟩, ⟨1, .phase⟩, ⟨2, .phase⟩, ⟨3, .phase⟩, ⟨4, .phase⟩, ⟨5, .phase⟩, ⟨6, .phase⟩, ⟨7, .phase⟩, { on := 12, ground := Ground.gcOnly Departure.appendInPlace }], guard := none }) (v := ?_) rfl (by kernel_rfl) (by kernel_rfl) (by kernel_rfl) (fun _ _ _ h => h) (Or.inl ⟨by rfl, ?_⟩) (by assumption) ?_
    rotate_left
    · intro w hSw; obtain ⟨s0, s1, s2, s3, s4, s5⟩ := Box.six hSw; go_simp; (try with_reducible rfl)
    simp only [Act.put, List.setIfInBounds_toArray, List.set_cons_zero, List.set_cons_succ]
    refine wpAnyH_take (i := 10) (oi := { dst := some 19, op := Op.nilCheck (Operand.tmp 10), type := 0, pos := "read.go:66", after := #[⟨0, .data⟩, ⟨0, .phase⟩, ⟨1, .phase⟩, ⟨2, .phase⟩, ⟨3, .phase⟩, ⟨4, .phase⟩, ⟨5, .phase⟩, ⟨6, .phase⟩, ⟨7, .phase⟩, { on := 8, ground := Ground.textOnly Departure.appendInPlace }, { on := 9, ground := Ground.textOnly Departure.appendInPlace }], guard := none }) (v := ?_) rfl (by kernel_rfl) (by kernel_rfl) (by kernel_rfl) (fun _ _ _ h => h) (Or.inl ⟨by rfl, ?_⟩) (by assumption) ?_
    rotate_left
    · intro w hSw; obtain ⟨s0, s1, s2, s3, s4, s5⟩ := Box.six hSw; go_simp; (try with_reducible rfl)
    simp only [Act.put, List.setIfInBounds_toArray, List.set_cons_zero, List.set_cons_succ]
    refine wpAnyH_take (i := 11) (oi := { dst := some 20, op := Op.fieldAddr 72 (Operand.tmp 19) 0, type := 0, pos := "read.go:66", after := #[⟨10, .data⟩, ⟨0, .phase⟩, ⟨1, .phase⟩, ⟨2, .phase⟩, ⟨3, .phase⟩, ⟨4, .phase⟩, ⟨5, .phase⟩, ⟨6, .phase⟩, ⟨7, .phase⟩, { on := 8, ground := Ground.textOnly Departure.appendInPlace }, { on := 9, ground := Ground.textOnly Departure.appendInPlace }], guard := none }) (v := ?_) rfl (by kernel_rfl) (by kernel_rfl) (by kernel_rfl) (fun _ _ _ h => h) (Or.inl ⟨by rfl, ?_⟩) (by assumption) ?_
    rotate_left
    · intro w hSw; obtain ⟨s0, s1, s2, s3, s4, s5⟩ := Box.six hSw; go_simp; (try with_reducible rfl)
    simp only [Act.put, List.setIfInBounds_toArray, List.set_cons_zero, List.set_cons_succ]
    refine wpAnyH_ready (rs := [9, 12]) (by kernel_rfl) (by simp) ?_
    refine AllReadyH.cons (o := { dst := none, op := Op.store 37 (Operand.tmp 18) (Operand.tmp 14), type := 0, pos := "read.go:66", after := #[⟨8, .data⟩, ⟨4, .data⟩, ⟨7, .chain⟩, ⟨0, .phase⟩, ⟨1, .phase⟩, ⟨2, .phase⟩, ⟨3, .phase⟩, ⟨4, .phase⟩, ⟨5, .phase⟩, ⟨6, .phase⟩, ⟨7, .phase⟩, { on := 12, ground := Ground.gcOnly Departure.appendInPlace }], guard := none }) rfl (fun KK hKK => ?_) (AllReadyH.cons (o := { dst := none, op := Op.store 24 (Operand.tmp 20) (Operand.tmp 17), type := 0, pos := "read.go:66", after := #[⟨11, .data⟩, ⟨7, .data⟩, ⟨7, .chain⟩, { on := 9, ground := Ground.textOnly Departure.appendInPlace }, ⟨0, .phase⟩, ⟨1, .phase⟩, ⟨2, .phase⟩, ⟨3, .phase⟩, ⟨4, .phase⟩, ⟨5, .phase⟩, ⟨6, .phase⟩, ⟨7, .phase⟩, { on := 8, ground := Ground.textOnly Departure.appendInPlace }, { on := 9, ground := Ground.textOnly Departure.appendInPlace }], guard := none }) rfl (fun KK hKK => ?_) AllReadyH.nil)
    · go_simp
      have d0A : ((((((w3.setCell ⟨g, n * 6, none⟩ (.int .i64 p.kind)).setCell ⟨g, n * 6 + 1, none⟩ (.string (BA p.text))).setCell ⟨g, n * 6 + 2, none⟩ (.bool p.quote)).setCell ⟨g, n * 6 + 3, none⟩ (.int .i64 p.op)).setCell ⟨g, n * 6 + 4, none⟩ (.bool p.colon)).setCell ⟨g, n * 6 + 5, none⟩ (.slice va vn vc)).cell? ⟨b, 0, none⟩ = some (.slice ad n cap) := Blk.cell (show Blk (T6 w3 g (n * 6) (.int .i64 p.kind) (.string (BA p.text)) (.bool p.quote) (.int .i64 p.op) (.bool p.colon) (.slice va vn vc)) b 72 _ from (unhide HM).blk.grownS (T6_grown ..) (unhide HM).bg) 0 rfl
      have z0A : ((((((w3.setCell ⟨g, n * 6, none⟩ (.int .i64 p.kind)).setCell ⟨g, n * 6 + 1, none⟩ (.string (BA p.text))).setCell ⟨g, n * 6 + 2, none⟩ (.bool p.quote)).setCell ⟨g, n * 6 + 3, none⟩ (.int .i64 p.op)).setCell ⟨g, n * 6 + 4, none⟩ (.bool p.colon)).setCell ⟨g, n * 6 + 5, none⟩ (.slice va vn vc)).frozen? ⟨b, 0, none⟩ = false := Blk.frozen (show Blk (T6 w3 g (n * 6) (.int .i64 p.kind) (.string (BA p.text)) (.bool p.quote) (.int .i64 p.op) (.bool p.colon) (.slice va vn vc)) b 72 _ from (unhide HM).blk.grownS (T6_grown ..) (unhide HM).bg) 0
      refine hKK.out _ _ (by exact show Box (T6 w3 g (n * 6) (.int .i64 p.kind) (.string (BA p.text)) (.bool p.quote) (.int .i64 p.op) (.bool p.colon) (.slice va vn vc)) w.heap.size p (.slice va vn vc) from Blk.grownS (unhide HM).box (T6_grown ..) (unhide HM).qg) (fun hHeld => ?_)
      clear hKK KK
      try simp only [Act.put, List.setIfInBounds_toArray, List.set_cons_zero, List.set_cons_succ]
      refine wpAnyH_ready (rs := [12]) (by kernel_rfl) (by simp) ?_
      refine AllReadyH.cons (o := { dst := none, op := Op.store 24 (Operand.tmp 20) (Operand.tmp 17), type := 0, pos := "read.go:66", after := #[⟨11, .data⟩, ⟨7, .data⟩, ⟨7, .chain⟩, { on := 9, ground := Ground.textOnly Departure.appendInPlace }, ⟨0, .phase⟩, ⟨1, .phase⟩, ⟨2, .phase⟩, ⟨3, .phase⟩, ⟨4, .phase⟩, ⟨5, .phase⟩, ⟨6, .phase⟩, ⟨7, .phase⟩, { on := 8, ground := Ground.textOnly Departure.appendInPlace }, { on := 9, ground := Ground.textOnly Departure.appendInPlace }], guard := none }) rfl (fun KK hKK => ?_) AllReadyH.nil
      go_simp
      refine hKK.out _ _ (by exact show Box ((T6 w3 g (n * 6) (.int .i64 p.kind) (.string (BA p.text)) (.bool p.quote) (.int .i64 p.op) (.bool p.colon) (.slice va vn vc)).setCell ⟨b, 0, none⟩ (.slice (some ⟨g, 0, none⟩) (n + 1) cg)) w.heap.size p (.slice va vn vc) from Blk.grownS (Blk.grownS (unhide HM).box (T6_grown ..) (unhide HM).qg) (setb_grown _ _ _ _) (unhide HM).qb) (fun hHeld => ?_)
      clear hKK KK
      try simp only [Act.put, List.setIfInBounds_toArray, List.set_cons_zero, List.set_cons_succ]
      clear hHeld
      refine wpAnyH_done (by kernel_rfl) ?_ _
      obtain ⟨w5, hw5⟩ : ∃ x, x = (((((((w3.setCell ⟨g, n * 6, none⟩ (.int .i64 p.kind)).setCell ⟨g, n * 6 + 1, none⟩ (.string (BA p.text))).setCell ⟨g, n * 6 + 2, none⟩ (.bool p.quote)).setCell ⟨g, n * 6 + 3, none⟩ (.int .i64 p.op)).setCell ⟨g, n * 6 + 4, none⟩ (.bool p.colon)).setCell ⟨g, n * 6 + 5, none⟩ (.slice va vn vc)).setCell ⟨b, 0, none⟩ (.slice (some ⟨g, 0, none⟩) (n + 1) cg)) := ⟨_, rfl⟩
      have H5 : Hid (LSg w5 b (fun k => X k ∨ k = g) (L2 ++ [(p, .slice va vn vc)]) [] (.slice (some ⟨g, 0, none⟩) (n + 1) cg) (.slice none 0 0) ∧ Box w5 w.heap.size p (.slice va vn vc)) := hide (by rw [hw5]; exact add_finA (unhide HM) (unhide H2) (unhide HN) (unhide HO3) (unhide HSUB) (unhide HIN))
      have HG5 : Hid (GrownS w w5 X ∧ ∀ k, X k ∨ k = g → X k ∨ w.heap.size ≤ k) := hide (by rw [hw5]; exact add_grownA (unhide HM) (unhide H2) (unhide HG2))
      rw [← hw5]
      clear hw5 d0 z0 e0a e1a e2a e3a e4a e5a e0b e1b e2b e3b e4b e5b c0a d0A z0A HM HO3 HBX1
      have q0 : w5.cell? ⟨w.heap.size, 0, none⟩ = some (.int .i64 p.kind) := (unhide H5).2.six.1
      go_wp2
      refine bodyPost_end (res0 rfl _ _) rfl ?_
      exact ⟨rfl, end_oth (unhide HPS) (unhide HGO) (unhide HKK) (by rw [← unhide HPS2]; exact (unhide H5).1) (unhide HG5).1 (unhide HG5).2⟩
    · go_simp
      have HOB : Hid (World.ownsRow (w3.setCell ⟨b, 0, none⟩ (.slice (some ⟨g, 0, none⟩) (n + 1) cg)) (b + 1) 37 6 (.slice (some ⟨g, 0, none⟩) (n + 1) cg) (n + 1) (flatP L2 ++ [.int .i64 0, .string ⟨#[]⟩, .bool false, .int .i64 0, .bool false, .slice none 0 0])) := hide (own_grownS (unhide HO3) (setb_grown _ _ _ _) (fun k hk e => (unhide HM).bg ((ownb hk).trans e).symm))
      have t0 := own_cell (j := n * 6) (unhide HOB) (zero_at (unhide HN) 0)
      have t1 := own_cell (j := n * 6 + 1) (unhide HOB) (zero_at (unhide HN) 1)
      have t2 := own_cell (j := n * 6 + 2) (unhide HOB) (zero_at (unhide HN) 2)
      have t3 := own_cell (j := n * 6 + 3) (unhide HOB) (zero_at (unhide HN) 3)
      have t4 := own_cell (j := n * 6 + 4) (unhide HOB) (zero_at (unhide HN) 4)
      have t5 := own_cell (j := n * 6 + 5) (unhide HOB) (zero_at (unhide HN) 5)
      obtain ⟨t0a, t0b⟩ := t0
      obtain ⟨t1a, t1b⟩ := t1
      obtain ⟨t2a, t2b⟩ := t2
      obtain ⟨t3a, t3b⟩ := t3
      obtain ⟨t4a, t4b⟩ := t4
      obtain ⟨t5a, t5b⟩ := t5
      refine hKK.out _ _ (by exact Blk.grownS (unhide HM).box (setb_grown _ _ _ _) (unhide HM).qb) (fun hHeld => ?_)
      clear hKK KK
      try simp only [Act.put, List.setIfInBounds_toArray, List.set_cons_zero, List.set_cons_succ]
      refine wpAnyH_ready (rs := [9]) (by kernel_rfl) (by simp) ?_
      refine AllReadyH.cons (o := { dst := none, op := Op.store 37 (Operand.tmp 18) (Operand.tmp 14), type := 0, pos := "read.go:66", after := #[⟨8, .data⟩, ⟨4, .data⟩, ⟨7, .chain⟩, ⟨0, .phase⟩, ⟨1, .phase⟩, ⟨2, .phase⟩, ⟨3, .phase⟩, ⟨4, .phase⟩, ⟨5, .phase⟩, ⟨6, .phase⟩, ⟨7, .phase⟩, { on := 12, ground := Ground.gcOnly Departure.appendInPlace }], guard := none }) rfl (fun KK hKK => ?_) AllReadyH.nil
      go_simp
      refine hKK.out _ _ (by exact show Box (T6 (w3.setCell ⟨b, 0, none⟩ (.slice (some ⟨g, 0, none⟩) (n + 1) cg)) g (n * 6) (.int .i64 p.kind) (.string (BA p.text)) (.bool p.quote) (.int .i64 p.op) (.bool p.colon) (.slice va vn vc)) w.heap.size p (.slice va vn vc) from Blk.grownS (Blk.grownS (unhide HM).box (setb_grown _ _ _ _) (unhide HM).qb) (T6_grown ..) (unhide HM).qg) (fun hHeld => ?_)
      clear hKK KK
      try simp only [Act.put, List.setIfInBounds_toArray, List.set_cons_zero, List.set_cons_succ]
      clear hHeld
      refine wpAnyH_done (by kernel_rfl) ?_ _
      obtain ⟨w5, hw5⟩ : ∃ x, x = (((((((w3.setCell ⟨b, 0, none⟩ (.slice (some ⟨g, 0, none⟩) (n + 1) cg)).setCell ⟨g, n * 6, none⟩ (.int .i64 p.kind)).setCell ⟨g, n * 6 + 1, none⟩ (.string (BA p.text))).setCell ⟨g, n * 6 + 2, none⟩ (.bool p.quote)).setCell ⟨g, n * 6 + 3, none⟩ (.int .i64 p.op)).setCell ⟨g, n * 6 + 4, none⟩ (.bool p.colon)).setCell ⟨g, n * 6 + 5, none⟩ (.slice va vn vc)) := ⟨_, rfl⟩
      have H5 : Hid (LSg w5 b (fun k => X k ∨ k = g) (L2 ++ [(p, .slice va vn vc)]) [] (.slice (some ⟨g, 0, none⟩) (n + 1) cg) (.slice none 0 0) ∧ Box w5 w.heap.size p (.slice va vn vc)) := hide (by rw [hw5]; exact add_finB (unhide HM) (unhide H2) (unhide HN) (unhide HO3) (unhide HSUB) (unhide HIN))
      have HG5 : Hid (GrownS w w5 X ∧ ∀ k, X k ∨ k = g → X k ∨ w.heap.size ≤ k) := hide (by rw [hw5]; exact add_grownB (unhide HM) (unhide H2) (unhide HG2))
      rw [← hw5]
      clear hw5 d0 z0 e0a e1a e2a e3a e4a e5a e0b e1b e2b e3b e4b e5b c0a t0a t1a t2a t3a t4a t5a t0b t1b t2b t3b t4b t5b HM HO3 HBX1 HOB
      have q0 : w5.cell? ⟨w.heap.size, 0, none⟩ = some (.int .i64 p.kind) := (unhide H5).2.six.1
      go_wp2
      refine bodyPost_end (res0 rfl _ _) rfl ?_
      exact ⟨rfl, end_oth (unhide HPS) (unhide HGO) (unhide HKK) (by rw [← unhide HPS2]; exact (unhide H5).1) (unhide HG5).1 (unhide HG5).2⟩
  · go_simp
    have c0a : (w2.alloc (.cells #[.int .i64 0, .string ⟨#[]⟩, .bool false, .int .i64 0, .bool false, .slice none 0 0] 37)).cell? ⟨b, 0, none⟩ = some (.slice ad n cap) := cell_alloc c0 _
    have HBX1 : Hid (Box (w2.alloc (.cells #[.int .i64 0, .string ⟨#[]⟩, .bool false, .int .i64 0, .bool false, .slice none 0 0] 37)) w.heap.size p (.slice va vn vc)) := hide (Blk.alloc (unhide HBX) _)
    refine hKK.out _ _ (by exact unhide HBX1) (fun hHeld => ?_)
    clear hKK KK
    try simp only [Act.put, List.setIfInBounds_toArray, List.set_cons_zero, List.set_cons_succ]
    refine wpAnyH_ready (rs := [3]) (by kernel_rfl) (by simp) ?_
    refine AllReadyH.cons (o := { dst := some 13, op := Op.load 24 (Operand.tmp 12), type := 24, pos := "read.go:66", after := #[⟨2, .data⟩], guard := none }) rfl (fun KK hKK => ?_) AllReadyH.nil
    go_simp
    refine hKK.out _ _ (by exact unhide HBX1) (fun hHeld => ?_)
    clear hKK KK
    try simp only [Act.put, List.setIfInBounds_toArray, List.set_cons_zero, List.set_cons_succ]
    refine wpAnyH_take (i := 5) (oi := { dst := some 15, op := Op.call { callee := Callee.builtin Builtin.len, args := #[Operand.tmp 13], argTypes := #[24] }, type := 3, pos := "read.go:66", after := #[⟨3, .data⟩], guard := none }) (v := ?_) rfl (by kernel_rfl) (by kernel_rfl) (by kernel_rfl) (fun _ _ _ h => h) (Or.inl ⟨by rfl, ?_⟩) (by assumption) ?_
    rotate_left
    · intro w hSw; obtain ⟨s0, s1, s2, s3, s4, s5⟩ := Box.six hSw; go_simp; (try with_reducible rfl)
    simp only [Act.put, List.setIfInBounds_toArray, List.set_cons_zero, List.set_cons_succ]
    refine wpAnyH_ready (rs := [7]) (by kernel_rfl) (by simp) ?_
    refine AllReadyH.cons (o := { dst := some 17, op := Op.call { callee := Callee.builtin Builtin.append, args := #[Operand.tmp 13, Operand.tmp 16], argTypes := #[24, 24] }, type := 24, pos := "read.go:66", after := #[⟨3, .data⟩, ⟨6, .data⟩, ⟨0, .phase⟩, ⟨1, .phase⟩, ⟨2, .phase⟩, ⟨3, .phase⟩, ⟨4, .phase⟩, ⟨5, .phase⟩, ⟨6, .phase⟩], guard := none }) rfl (fun KK hKK => ?_) AllReadyH.nil
    refine step_append_lies _ (by rfl) _ _ _ (by rfl) (b + 1) 37 iT _ 6 72 und_word hiT hzT0 hzT1 hzT2 rfl (by decide) (.slice ad n cap) n (flatP L2) (by simp [Act.eval]) (own_drew (World.ownsRow.alloc (unhide HROW) _)) ⟨w2.heap.size, 0, none⟩ 1 1 [.int .i64 0, .string ⟨#[]⟩, .bool false, .int .i64 0, .bool false, .slice none 0 0] (by simp [Act.eval]) rfl six_cells zero_is (by decide) (by unfold maxLen; omega) (by omega) (by simp; omega) (w2.heap.size + 1) (by simp) ?_
    intro g cg w3 hown3 hgrow hat hlt3
    have HM := hide (add_mid (unhide H2) hown3 hgrow hat (unhide HBX) (unhide HXQ))
    have HO3 := hide hown3
    have d0 : w3.cell? ⟨b, 0, none⟩ = some (.slice ad n cap) := (unhide HM).blk.cell 0 rfl
    have z0 : w3.frozen? ⟨b, 0, none⟩ = false := (unhide HM).blk.frozen 0
    have e0 := own_cell (j := n * 6) (unhide HO3) (zero_at (unhide HN) 0)
    have e1 := own_cell (j := n * 6 + 1) (unhide HO3) (zero_at (unhide HN) 1)
    have e2 := own_cell (j := n * 6 + 2) (unhide HO3) (zero_at (unhide HN) 2)
    have e3 := own_cell (j := n * 6 + 3) (unhide HO3) (zero_at (unhide HN) 3)
    have e4 := own_cell (j := n * 6 + 4) (unhide HO3) (zero_at (unhide HN) 4)
    have e5 := own_cell (j := n * 6 + 5) (unhide HO3) (zero_at (unhide HN) 5)
    obtain ⟨e0a, e0b⟩ := e0
    obtain ⟨e1a, e1b⟩ := e1
    obtain ⟨e2a, e2b⟩ := e2
    obtain ⟨e3a, e3b⟩ := e3
    obtain ⟨e4a, e4b⟩ := e4
    obtain ⟨e5a, e5b⟩ := e5
    clear hown3 hgrow hat hlt3
    refine hKK.out _ _ (by exact (unhide HM).box) (fun hHeld => ?_)
    clear hKK KK
    try simp only [Act.put, List.setIfInBounds_toArray, List.set_cons_zero, List.set_cons_succ]
    refine wpAnyH_take (i := 8) (oi := { dst := some 18, op := Op.indexAddr 24 (Operand.tmp 17) (Operand.tmp 15), type := 0, pos := "read.go:66", after := #[⟨7, .data⟩, ⟨5, .data⟩, ⟨0, .phase⟩, ⟨1, .phase⟩, ⟨2, .phase⟩, ⟨3, .phase⟩, ⟨4, .phase⟩, ⟨5, .phase⟩, ⟨6, .phase⟩, ⟨7, .phase⟩, { on := 12, ground := Ground.gcOnly Departure.appendInPlace }], guard := none }) (v := ?_) rfl (by kernel_rfl) (by kernel_rfl) (by kernel_rfl) (fun _ _ _ h => h) (Or.inl ⟨by rfl, ?_⟩) (by assumption) ?_
    rotate_left
    · intro w hSw; obtain ⟨s0, s1, s2, s3, s4, s5⟩ := Box.six hSw; go_simp; (try with_reducible rfl)
    simp only [Act.put, List.setIfInBounds_toArray, List.set_cons_zero, List.set_cons_succ]
    refine wpAnyH_take (i := 10) (oi := { dst := some 19, op := Op.nilCheck (Operand.tmp 10), type := 0, pos := "read.go:66", after := #[⟨0, .data⟩, ⟨0, .phase⟩, ⟨1, .phase⟩, ⟨2, .phase⟩, ⟨3, .phase⟩, ⟨4, .phase⟩, ⟨5, .phase⟩, ⟨6, .phase⟩, ⟨7, .phase⟩, { on := 8, ground := Ground.textOnly Departure.appendInPlace }, { on := 9, ground := Ground.textOnly Departure.appendInPlace }], guard := none }) (v := ?_) rfl (by kernel_rfl) (by kernel_rfl) (by kernel_rfl) (fun _ _ _ h => h) (Or.inl ⟨by rfl, ?_⟩) (by assumption) ?_
    rotate_left
    · intro w hSw; obtain ⟨s0, s1, s2, s3, s4, s5⟩ := Box.six hSw; go_simp; (try with_reducible rfl)
    simp only [Act.put, List.setIfInBounds_toArray, List.set_cons_zero, List.set_cons_succ]
    refine wpAnyH_take (i := 11) (oi := { dst := some 20, op := Op.fieldAddr 72 (Operand.tmp 19) 0, type := 0, pos := "read.go:66", after := #[⟨10, .data⟩, ⟨0, .phase⟩, ⟨1, .phase⟩, ⟨2, .phase⟩, ⟨3, .phase⟩, ⟨4, .phase⟩, ⟨5, .phase⟩, ⟨6, .phase⟩, ⟨7, .phase⟩, { on := 8, ground := Ground.textOnly Departure.appendInPlace }, { on := 9, ground := Ground.textOnly Departure.appendInPlace }], guard := none }) (v := ?_) rfl (by kernel_rfl) (by kernel_rfl) (by kernel_rfl) (fun _ _ _ h => h) (Or.inl ⟨by rfl, ?_⟩) (by assumption) ?_
    rotate_left
    · intro w hSw; obtain ⟨s0, s1, s2, s3, s4, s5⟩ := Box.six hSw; go_simp; (try with_reducible rfl)
    simp only [Act.put, List.setIfInBounds_toArray, List.set_cons_zero, List.set_cons_succ]
    refine wpAnyH_ready (rs := [9, 12]) (by kernel_rfl) (by simp) ?_
    refine AllReadyH.cons (o := { dst := none, op := Op.store 37 (Operand.tmp 18) (Operand.tmp 14), type := 0, pos := "read.go:66", after := #[⟨8, .data⟩, ⟨4, .data⟩, ⟨7, .chain⟩, ⟨0, .phase⟩, ⟨1, .phase⟩, ⟨2, .phase⟩, ⟨3, .phase⟩, ⟨4, .phase⟩, ⟨5, .phase⟩, ⟨6, .phase⟩, ⟨7, .phase⟩, { on := 12, ground := Ground.gcOnly Departure.appendInPlace }], guard := none }) rfl (fun KK hKK => ?_) (AllReadyH.cons (o := { dst := none, op := Op.store 24 (Operand.tmp 20) (Operand.tmp 17), type := 0, pos := "read.go:66", after := #[⟨11, .data⟩, ⟨7, .data⟩, ⟨7, .chain⟩, { on := 9, ground := Ground.textOnly Departure.appendInPlace }, ⟨0, .phase⟩, ⟨1, .phase⟩, ⟨2, .phase⟩, ⟨3, .phase⟩, ⟨4, .phase⟩, ⟨5, .phase⟩, ⟨6, .phase⟩, ⟨7, .phase⟩, { on := 8, ground := Ground.textOnly Departure.appendInPlace }, { on := 9, ground := Ground.textOnly Departure.appendInPlace }], guard := none }) rfl (fun KK hKK => ?_) AllReadyH.nil)
    · go_simp
      have d0A : ((((((w3.setCell ⟨g, n * 6, none⟩ (.int .i64 p.kind)).setCell ⟨g, n * 6 + 1, none⟩ (.string (BA p.text))).setCell ⟨g, n * 6 + 2, none⟩ (.bool p.quote)).setCell ⟨g, n * 6 + 3, none⟩ (.int .i64 p.op)).setCell ⟨g, n * 6 + 4, none⟩ (.bool p.colon)).setCell ⟨g, n * 6 + 5, none⟩ (.slice va vn vc)).cell? ⟨b, 0, none⟩ = some (.slice ad n cap) := Blk.cell (show Blk (T6 w3 g (n * 6) (.int .i64 p.kind) (.string (BA p.text)) (.bool p.quote) (.int .i64 p.op) (.bool p.colon) (.slice va vn vc)) b 72 _ from (unhide HM).blk.grownS (T6_grown ..) (unhide HM).bg) 0 rfl
      have z0A : ((((((w3.setCell ⟨g, n * 6, none⟩ (.int .i64 p.kind)).setCell ⟨g, n * 6 + 1, none⟩ (.string (BA p.text))).setCell ⟨g, n * 6 + 2, none⟩ (.bool p.quote)).setCell ⟨g, n * 6 + 3, none⟩ (.int .i64 p.op)).setCell ⟨g, n * 6 + 4, none⟩ (.bool p.colon)).setCell ⟨g, n * 6 + 5, none⟩ (.slice va vn vc)).frozen? ⟨b, 0, none⟩ = false := Blk.frozen (show Blk (T6 w3 g (n * 6) (.int .i64 p.kind) (.string (BA p.text)) (.bool p.quote) (.int .i64 p.op) (.bool p.colon) (.slice va vn vc)) b 72 _ from (unhide HM).blk.grownS (T6_grown ..) (unhide HM).bg) 0
      refine hKK.out _ _ (by exact show Box (T6 w3 g (n * 6) (.int .i64 p.kind) (.string (BA p.text)) (.bool p.quote) (.int .i64 p.op) (.bool p.colon) (.slice va vn vc)) w.heap.size p (.slice va vn vc) from Blk.grownS (unhide HM).box (T6_grown ..) (unhide HM).qg) (fun hHeld => ?_)
      clear hKK KK
      try simp only [Act.put, List.setIfInBounds_toArray, List.set_cons_zero, List.set_cons_succ]
      refine wpAnyH_ready (rs := [12]) (by kernel_rfl) (by simp) ?_
      refine AllReadyH.cons (o := { dst := none, op := Op.store 24 (Operand.tmp 20) (Operand.tmp 17), type := 0, pos := "read.go:66", after := #[⟨11, .data⟩, ⟨7, .data⟩, ⟨7, .chain⟩, { on := 9, ground := Ground.textOnly Departure.appendInPlace }, ⟨0, .phase⟩, ⟨1, .phase⟩, ⟨2, .phase⟩, ⟨3, .phase⟩, ⟨4, .phase⟩, ⟨5, .phase⟩, ⟨6, .phase⟩, ⟨7, .phase⟩, { on := 8, ground := Ground.textOnly Departure.appendInPlace }, { on := 9, ground := Ground.textOnly Departure.appendInPlace }], guard := none }) rfl (fun KK hKK => ?_) AllReadyH.nil
      go_simp
      refine hKK.out _ _ (by exact show Box ((T6 w3 g (n * 6) (.int .i64 p.kind) (.string (BA p.text)) (.bool p.quote) (.int .i64 p.op) (.bool p.colon) (.slice va vn vc)).setCell ⟨b, 0, none⟩ (.slice (some ⟨g, 0, none⟩) (n + 1) cg)) w.heap.size p (.slice va vn vc) from Blk.grownS (Blk.grownS (unhide HM).box (T6_grown ..) (unhide HM).qg) (setb_grown _ _ _ _) (unhide HM).qb) (fun hHeld => ?_)
      clear hKK KK
      try simp only [Act.put, List.setIfInBounds_toArray, List.set_cons_zero, List.set_cons_succ]
      clear hHeld
      refine wpAnyH_done (by kernel_rfl) ?_ _
      obtain ⟨w5, hw5⟩ : ∃ x, x = (((((((w3.setCell ⟨g, n * 6, none⟩ (.int .i64 p.kind)).setCell ⟨g, n * 6 + 1, none⟩ (.string (BA p.text))).setCell ⟨g, n * 6 + 2, none⟩ (.bool p.quote)).setCell ⟨g, n * 6 + 3, none⟩ (.int .i64 p.op)).setCell ⟨g, n * 6 + 4, none⟩ (.bool p.colon)).setCell ⟨g, n * 6 + 5, none⟩ (.slice va vn vc)).setCell ⟨b, 0, none⟩ (.slice (some ⟨g, 0, none⟩) (n + 1) cg)) := ⟨_, rfl⟩
      have H5 : Hid (LSg w5 b (fun k => X k ∨ k = g) (L2 ++ [(p, .slice va vn vc)]) [] (.slice (some ⟨g, 0, none⟩) (n + 1) cg) (.slice none 0 0) ∧ Box w5 w.heap.size p (.slice va vn vc)) := hide (by rw [hw5]; exact add_finA (unhide HM) (unhide H2) (unhide HN) (unhide HO3) (unhide HSUB) (unhide HIN))
      have HG5 : Hid (GrownS w w5 X ∧ ∀ k, X k ∨ k = g → X k ∨ w.heap.size ≤ k) := hide (by rw [hw5]; exact add_grownA (unhide HM) (unhide H2) (unhide HG2))
      rw [← hw5]
      clear hw5 d0 z0 e0a e1a e2a e3a e4a e5a e0b e1b e2b e3b e4b e5b c0a d0A z0A HM HO3 HBX1
      have q0 : w5.cell? ⟨w.heap.size, 0, none⟩ = some (.int .i64 p.kind) := (unhide H5).2.six.1
      go_wp2
      refine bodyPost_end (res0 rfl _ _) rfl ?_
      exact ⟨rfl, end_oth (unhide HPS) (unhide HGO) (unhide HKK) (by rw [← unhide HPS2]; exact (unhide H5).1) (unhide HG5).1 (unhide HG5).2⟩
    · go_simp
      have HOB : Hid (World.ownsRow (w3.setCell ⟨b, 0, none⟩ (.slice (some ⟨g, 0, none⟩) (n + 1) cg)) (b + 1) 37 6 (.slice (some ⟨g, 0, none⟩) (n + 1) cg) (n + 1) (flatP L2 ++ [.int .i64 0, .string ⟨#[]⟩, .bool false, .int .i64 0, .bool false, .slice none 0 0])) := hide (own_grownS (unhide HO3) (setb_grown _ _ _ _) (fun k hk e => (unhide HM).bg ((ownb hk).trans e).symm))
      have t0 := own_cell (j := n * 6) (unhide HOB) (zero_at (unhide HN) 0)
      have t1 := own_cell (j := n * 6 + 1) (unhide HOB) (zero_at (unhide HN) 1)
      have t2 := own_cell (j := n * 6 + 2) (unhide HOB) (zero_at (unhide HN) 2)
      have t3 := own_cell (j := n * 6 + 3) (unhide HOB) (zero_at (unhide HN) 3)
      have t4 := own_cell (j := n * 6 + 4) (unhide HOB) (zero_at (unhide HN) 4)
      have t5 := own_cell (j := n * 6 + 5) (unhide HOB) (zero_at (unhide HN) 5)
      obtain ⟨t0a, t0b⟩ := t0
      obtain ⟨t1a, t1b⟩ := t1
      obtain ⟨t2a, t2b⟩ := t2
      obtain ⟨t3a, t3b⟩ := t3
      obtain ⟨t4a, t4b⟩ := t4
      obtain ⟨t5a, t5b⟩ := t5
      refine hKK.out _ _ (by exact Blk.grownS (unhide HM).box (setb_grown _ _ _ _) (unhide HM).qb) (fun hHeld => ?_)
      clear hKK KK
      try simp only [Act.put, List.setIfInBounds_toArray, List.set_cons_zero, List.set_cons_succ]
      refine wpAnyH_ready (rs := [9]) (by kernel_rfl) (by simp) ?_
      refine AllReadyH.cons (o := { dst := none, op := Op.store 37 (Operand.tmp 18) (Operand.tmp 14), type := 0, pos := "read.go:66", after := #[⟨8, .data⟩, ⟨4, .data⟩, ⟨7, .chain⟩, ⟨0, .phase⟩, ⟨1, .phase⟩, ⟨2, .phase⟩, ⟨3, .phase⟩, ⟨4, .phase⟩, ⟨5, .phase⟩, ⟨6, .phase⟩, ⟨7, .phase⟩, { on := 12, ground := Ground.gcOnly Departure.appendInPlace }], guard := none }) rfl (fun KK hKK => ?_) AllReadyH.nil
      go_simp
      refine hKK.out _ _ (by exact show Box (T6 (w3.setCell ⟨b, 0, none⟩ (.slice (some ⟨g, 0, none⟩) (n + 1) cg)) g (n * 6) (.int .i64 p.kind) (.string (BA p.text)) (.bool p.quote) (.int .i64 p.op) (.bool p.colon) (.slice va vn vc)) w.heap.size p (.slice va vn vc) from Blk.grownS (Blk.grownS (unhide HM).box (setb_grown _ _ _ _) (unhide HM).qb) (T6_grown ..) (unhide HM).qg) (fun hHeld => ?_)
      clear hKK KK
      try simp only [Act.put, List.setIfInBounds_toArray, List.set_cons_zero, List.set_cons_succ]
      clear hHeld
      refine wpAnyH_done (by kernel_rfl) ?_ _
      obtain ⟨w5, hw5⟩ : ∃ x, x = (((((((w3.setCell ⟨b, 0, none⟩ (.slice (some ⟨g, 0, none⟩) (n + 1) cg)).setCell ⟨g, n * 6, none⟩ (.int .i64 p.kind)).setCell ⟨g, n * 6 + 1, none⟩ (.string (BA p.text))).setCell ⟨g, n * 6 + 2, none⟩ (.bool p.quote)).setCell ⟨g, n * 6 + 3, none⟩ (.int .i64 p.op)).setCell ⟨g, n * 6 + 4, none⟩ (.bool p.colon)).setCell ⟨g, n * 6 + 5, none⟩ (.slice va vn vc)) := ⟨_, rfl⟩
      have H5 : Hid (LSg w5 b (fun k => X k ∨ k = g) (L2 ++ [(p, .slice va vn vc)]) [] (.slice (some ⟨g, 0, none⟩) (n + 1) cg) (.slice none 0 0) ∧ Box w5 w.heap.size p (.slice va vn vc)) := hide (by rw [hw5]; exact add_finB (unhide HM) (unhide H2) (unhide HN) (unhide HO3) (unhide HSUB) (unhide HIN))
      have HG5 : Hid (GrownS w w5 X ∧ ∀ k, X k ∨ k = g → X k ∨ w.heap.size ≤ k) := hide (by rw [hw5]; exact add_grownB (unhide HM) (unhide H2) (unhide HG2))
      rw [← hw5]
      clear hw5 d0 z0 e0a e1a e2a e3a e4a e5a e0b e1b e2b e3b e4b e5b c0a t0a t1a t2a t3a t4a t5a t0b t1b t2b t3b t4b t5b HM HO3 HBX1 HOB
      have q0 : w5.cell? ⟨w.heap.size, 0, none⟩ = some (.int .i64 p.kind) := (unhide H5).2.six.1
      go_wp2
      refine bodyPost_end (res0 rfl _ _) rfl ?_
      exact ⟨rfl, end_oth (unhide HPS) (unhide HGO) (unhide HKK) (by rw [← unhide HPS2]; exact (unhide H5).1) (unhide HG5).1 (unhide HG5).2⟩
set_option maxRecDepth 100000 in
set_option maxHeartbeats 40000000 in
theorem ladd_lit (w : World) (b : Nat) (X A : Nat → Prop) (L : List (Prt × Value)) (bs : List UInt8) (ps : List Prt) (pv bv x : Value) (p : Prt) (h : LSg w b X L bs pv bv) (hps : (setL L bs).map Prod.fst = ps) (hbs : litB L = false → bs = []) (hx : PV w A x p) (hA : ∀ k, A k → InW b X w k) (hl : ps.length ≤ 100000) (ht : tlen ps + p.text.length ≤ 1000000) (hgo : goesB L p = false) (hkk : (p.kind == 1) = true) :
    Calls Tryz.prog 41 #[.pointer (some ⟨b, 0, none⟩), x] w fun e w' => e = .returned (.tuple #[]) ∧ ∃ X', LSt w' b X' (addP ps p) ∧ GrownS w w' X ∧ ∀ k, X' k → X k ∨ w.heap.size ≤ k := by
  obtain ⟨i0, hi, hz0, hz1, hz2⟩ := info_of info_byte
  have hLl : L.length ≤ 100000 := by rw [← hps, List.length_map, setL_len] at hl; exact hl
  have hbl0 := bs_len hps hbs
  have HLT : Hid (([] : List UInt8).length + p.text.length ≤ 1000000) := hide (by simp; omega)
  obtain ⟨v, rfl, hsub⟩ := hx
  obtain ⟨va, vc, rfl, _⟩ := hsub.len
  obtain ⟨vn, hvn⟩ : ∃ n, n = p.sub.length := ⟨_, rfl⟩
  rw [← hvn] at hsub ⊢
  obtain ⟨ba, bn, bc, hbv⟩ := h.bshape
  subst hbv
  have hbl := h.blk.lt
  have HQB : Hid (¬ w.heap.size = b) := hide (by omega)
  have HPS := hide hps
  have HGO := hide hgo
  have hbox : Box (w.alloc (.cells #[.int .i64 p.kind, .string (BA p.text), .bool p.quote, .int .i64 p.op, .bool p.colon, .slice va vn vc] 37)) w.heap.size p (.slice va vn vc) := Blk.new w _ _
  have HC : Hid (∀ o, Calls Tryz.prog 62 #[.pointer (some ⟨b, 0, none⟩), .agg #[.int .i64 p.kind, .string (BA p.text), .bool p.quote, .int .i64 p.op, .bool p.colon, .slice va vn vc]] (w.alloc o) fun e w' => e = .returned (.bool false) ∧ Below (w.alloc o).heap.size (w.alloc o) w') := hide (fun o => by
    rw [← hgo]
    exact goesOn_any _ b X A L bs pv _ _ p (h.below ((Below.refl _ _).alloc (Nat.le_refl _) _)) ⟨_, rfl, hsub.below ((Below.refl _ _).alloc (Nat.le_refl _) _) (fun k hk => (hA k hk).2.1)⟩ hLl)
  have HB0 : Hid (LSg (w.alloc (.cells #[.int .i64 p.kind, .string (BA p.text), .bool p.quote, .int .i64 p.op, .bool p.colon, .slice va vn vc] 37)) b X L bs pv (.slice ba bn bc) ∧ Box (w.alloc (.cells #[.int .i64 p.kind, .string (BA p.text), .bool p.quote, .int .i64 p.op, .bool p.colon, .slice va vn vc] 37)) w.heap.size p (.slice va vn vc)) := hide ⟨h.below ((Below.refl _ _).alloc (Nat.le_refl _) _), hbox⟩
  obtain ⟨iT, hiT, hzT0, hzT1, hzT2⟩ := info_of info_part
  have HKK := hide hkk
  have HXQ : Hid (¬ X w.heap.size) := hide (fun e => by have := h.hi _ e; omega)
  have HS0 : Hid (WAt w A (.slice va vn vc) p.sub ∧ ∀ k, A k → InW b X w k) := hide ⟨hsub, hA⟩
  have HLL := hide hLl
  clear hsub hps hbs hgo hbox h hl ht hbl0 hA hvn hLl
  go_enter Tryz.func41, Tryz.ntmps41
  go_wp2_with fail
  refine ((unhide HC) _).mono ?_
  rintro e w1 ⟨rfl, b1⟩
  have HG1 : Hid (Below w.heap.size w w1) := hide (((Below.refl _ _).alloc (Nat.le_refl _) _).trans (b1.mono (by simp)))
  have H1 : Hid (LSg w1 b X L bs pv (.slice ba bn bc) ∧ Box w1 w.heap.size p (.slice va vn vc)) := hide ⟨(unhide HB0).1.below b1, Blk.below (unhide HB0).2 b1 (by simp)⟩
  clear b1 HC HB0
  go_wp2_with fail
  refine (settle_any w1 b X L bs pv _ (unhide H1).1 (unhide HLL)).mono ?_
  rintro e w2 ⟨rfl, h2, g2⟩
  have HG2 : Hid (GrownS w w2 X) := hide ((grownS_of_below (unhide HG1)).trans g2)
  have HBX : Hid (Box w2 w.heap.size p (.slice va vn vc)) := hide (Blk.grownS (unhide H1).2 g2 (unhide HXQ))
  have HSUB : Hid (WAt w2 A (.slice va vn vc) p.sub) := hide ((unhide HS0).1.kept (fun k hk => (unhide HG2).block k ((unhide HS0).2 k hk).2.1 ((unhide HS0).2 k hk).2.2) (fun _ h => h))
  have HIN : Hid (∀ k, A k → InW b X w2 k) := hide (fun k hk => ⟨((unhide HS0).2 k hk).1, Nat.lt_of_lt_of_le ((unhide HS0).2 k hk).2.1 (unhide HG2).size, ((unhide HS0).2 k hk).2.2⟩)
  obtain ⟨L2, hL2⟩ : ∃ x, x = setL L bs := ⟨_, rfl⟩
  rw [← hL2] at h2
  obtain ⟨ad, cap, rfl, _⟩ := h2.pshape
  obtain ⟨n, hn⟩ : ∃ n, L2.length = n := ⟨_, rfl⟩
  rw [hn] at h2
  have hnl : n ≤ 100000 := by rw [← hn, hL2, setL_len]; exact unhide HLL
  have HROW : Hid (w2.ownsRow (b + 1) 37 6 (.slice ad n cap) n (flatP L2)) := hide (by have := h2.row; rwa [hn] at this)
  have c0 : w2.cell? ⟨b, 0, none⟩ = some (.slice ad n cap) := h2.blk.cell 0 rfl
  have hb2 := h2.blk.lt
  have HPS2 : Hid (L2 = setL L bs) := hide hL2
  have HN := hide hn
  have hnn : (n : Int) < (n : Int) + 1 := by omega
  have H2 := hide h2
  clear h2 g2 H1 HG1 hn hL2 HS0 hbl
  go_wp2_with fail
  refine wp_region_held_drew (S := fun w' => Box w' w.heap.size p (.slice va vn vc)) (by kernel_rfl) (by exact unhide HBX) (fun hHeld => ?_)
  refine wpAnyH_take (i := 0) (oi := { dst := some 10, op := Op.move (Operand.tmp 0), type := 91, pos := "read.go:66", after := #[], guard := none }) (v := ?_) rfl (by kernel_rfl) (by kernel_rfl) (by kernel_rfl) (fun _ _ _ h => h) (Or.inl ⟨by rfl, ?_⟩) (by assumption) ?_
  rotate_left
  · intro w hSw; obtain ⟨s0, s1, s2, s3, s4, s5⟩ := Box.six hSw; go_simp; (try with_reducible rfl)
  simp only [Act.put, List.setIfInBounds_toArray, List.set_cons_zero, List.set_cons_succ]
  refine wpAnyH_take (i := 1) (oi := { dst := some 11, op := Op.nilCheck (Operand.tmp 10), type := 0, pos := "read.go:66", after := #[⟨0, .data⟩], guard := none }) (v := ?_) rfl (by kernel_rfl) (by kernel_rfl) (by kernel_rfl) (fun _ _ _ h => h) (Or.inl ⟨by rfl, ?_⟩) (by assumption) ?_
  rotate_left
  · intro w hSw; obtain ⟨s0, s1, s2, s3, s4, s5⟩ := Box.six hSw; go_simp; (try with_reducible rfl)
  simp only [Act.put, List.setIfInBounds_toArray, List.set_cons_zero, List.set_cons_succ]
  refine wpAnyH_take (i := 2) (oi := { dst := some 12, op := Op.fieldAddr 72 (Operand.tmp 11) 0, type := 0, pos := "read.go:66", after := #[⟨1, .data⟩], guard := none }) (v := ?_) rfl (by kernel_rfl) (by kernel_rfl) (by kernel_rfl) (fun _ _ _ h => h) (Or.inl ⟨by rfl, ?_⟩) (by assumption) ?_
  rotate_left
  · intro w hSw; obtain ⟨s0, s1, s2, s3, s4, s5⟩ := Box.six hSw; go_simp; (try with_reducible rfl)
  simp only [Act.put, List.setIfInBounds_toArray, List.set_cons_zero, List.set_cons_succ]
  refine wpAnyH_take (i := 4) (oi := { dst := some 14, op := Op.load 37 (Operand.tmp 3), type := 37, pos := "read.go:66", after := #[], guard := none }) (v := ?_) rfl (by kernel_rfl) (by kernel_rfl) (by kernel_rfl) (fun _ _ _ h => h) (Or.inl ⟨by rfl, ?_⟩) (by assumption) ?_
  rotate_left
  · intro w hSw; obtain ⟨s0, s1, s2, s3, s4, s5⟩ := Box.six hSw; go_simp; (try with_reducible rfl)
  simp only [Act.put, List.setIfInBounds_toArray, List.set_cons_zero, List.set_cons_succ]
  refine wpAnyH_ready (rs := [3, 6]) (by kernel_rfl) (by simp) ?_
  refine AllReadyH.cons (o := { dst := some 13, op := Op.load 24 (Operand.tmp 12), type := 24, pos := "read.go:66", after := #[⟨2, .data⟩], guard := none }) rfl (fun KK hKK => ?_) (AllReadyH.cons (o := { dst := some 16, op := Op.buildSlice 24 1 #[(0, Operand.const (Value.agg #[Value.int IntKind.i64 0, Value.string { data := #[] }, Value.bool false, Value.int IntKind.i64 0, Value.bool false, Value.slice none 0 0]))], type := 24, pos := "read.go:66", after := #[], guard := none }) rfl (fun KK hKK => ?_) AllReadyH.nil)
  · go_simp
    refine hKK.out _ _ (by exact unhide HBX) (fun hHeld => ?_)
    clear hKK KK
    try simp only [Act.put, List.setIfInBounds_toArray, List.set_cons_zero, List.set_cons_succ]
    refine wpAnyH_take (i := 5) (oi := { dst := some 15, op := Op.call { callee := Callee.builtin Builtin.len, args := #[Operand.tmp 13], argTypes := #[24] }, type := 3, pos := "read.go:66", after := #[⟨3, .data⟩], guard := none }) (v := ?_) rfl (by kernel_rfl) (by kernel_rfl) (by kernel_rfl) (fun _ _ _ h => h) (Or.inl ⟨by rfl, ?_⟩) (by assumption) ?_
    rotate_left
    · intro w hSw; obtain ⟨s0, s1, s2, s3, s4, s5⟩ := Box.six hSw; go_simp; (try with_reducible rfl)
    simp only [Act.put, List.setIfInBounds_toArray, List.set_cons_zero, List.set_cons_succ]
    refine wpAnyH_ready (rs := [6]) (by kernel_rfl) (by simp) ?_
    refine AllReadyH.cons (o := { dst := some 16, op := Op.buildSlice 24 1 #[(0, Operand.const (Value.agg #[Value.int IntKind.i64 0, Value.string { data := #[] }, Value.bool false, Value.int IntKind.i64 0, Value.bool false, Value.slice none 0 0]))], type := 24, pos := "read.go:66", after := #[], guard := none }) rfl (fun KK hKK => ?_) AllReadyH.nil
    go_simp
    have c0a : (w2.alloc (.cells #[.int .i64 0, .string ⟨#[]⟩, .bool false, .int .i64 0, .bool false, .slice none 0 0] 37)).cell? ⟨b, 0, none⟩ = some (.slice ad n cap) := cell_alloc c0 _
    have HBX1 : Hid (Box (w2.alloc (.cells #[.int .i64 0, .string ⟨#[]⟩, .bool false, .int .i64 0, .bool false, .slice none 0 0] 37)) w.heap.size p (.slice va vn vc)) := hide (Blk.alloc (unhide HBX) _)
    refine hKK.out _ _ (by exact unhide HBX1) (fun hHeld => ?_)
    clear hKK KK
    try simp only [Act.put, List.setIfInBounds_toArray, List.set_cons_zero, List.set_cons_succ]
    refine wpAnyH_ready (rs := [7]) (by kernel_rfl) (by simp) ?_
    refine AllReadyH.cons (o := { dst := some 17, op := Op.call { callee := Callee.builtin Builtin.append, args := #[Operand.tmp 13, Operand.tmp 16], argTypes := #[24, 24] }, type := 24, pos := "read.go:66", after := #[⟨3, .data⟩, ⟨6, .data⟩, ⟨0, .phase⟩, ⟨1, .phase⟩, ⟨2, .phase⟩, ⟨3, .phase⟩, ⟨4, .phase⟩, ⟨5, .phase⟩, ⟨6, .phase⟩], guard := none }) rfl (fun KK hKK => ?_) AllReadyH.nil
    refine step_append_lies _ (by rfl) _ _ _ (by rfl) (b + 1) 37 iT _ 6 72 und_word hiT hzT0 hzT1 hzT2 rfl (by decide) (.slice ad n cap) n (flatP L2) (by simp [Act.eval]) (own_drew (World.ownsRow.alloc (unhide HROW) _)) ⟨w2.heap.size, 0, none⟩ 1 1 [.int .i64 0, .string ⟨#[]⟩, .bool false, .int .i64 0, .bool false, .slice none 0 0] (by simp [Act.eval]) rfl six_cells zero_is (by decide) (by unfold maxLen; omega) (by omega) (by simp; omega) (w2.heap.size + 1) (by simp) ?_
    intro g cg w3 hown3 hgrow hat hlt3
    have HM := hide (add_mid (unhide H2) hown3 hgrow hat (unhide HBX) (unhide HXQ))
    have HO3 := hide hown3
    have d0 : w3.cell? ⟨b, 0, none⟩ = some (.slice ad n cap) := (unhide HM).blk.cell 0 rfl
    have z0 : w3.frozen? ⟨b, 0, none⟩ = false := (unhide HM).blk.frozen 0
    have e0 := own_cell (j := n * 6) (unhide HO3) (zero_at (unhide HN) 0)
    have e1 := own_cell (j := n * 6 + 1) (unhide HO3) (zero_at (unhide HN) 1)
    have e2 := own_cell (j := n * 6 + 2) (unhide HO3) (zero_at (unhide HN) 2)
    have e3 := own_cell (j := n * 6 + 3) (unhide HO3) (zero_at (unhide HN) 3)
    have e4 := own_cell (j := n * 6 + 4) (unhide HO3) (zero_at (unhide HN) 4)
    have e5 := own_cell (j := n * 6 + 5) (unhide HO3) (zero_at (unhide HN) 5)
    obtain ⟨e0a, e0b⟩ := e0
    obtain ⟨e1a, e1b⟩ := e1
    obtain ⟨e2a, e2b⟩ := e2
    obtain ⟨e3a, e3b⟩ := e3
    obtain ⟨e4a, e4b⟩ := e4
    obtain ⟨e5a, e5b⟩ := e5
    clear hown3 hgrow hat hlt3
    refine hKK.out _ _ (by exact (unhide HM).box) (fun hHeld => ?_)
    clear hKK KK
    try simp only [Act.put, List.setIfInBounds_toArray, List.set_cons_zero, List.set_cons_succ]
    refine wpAnyH_take (i := 8) (oi := { dst := some 18, op := Op.indexAddr 24 (Operand.tmp 17) (Operand.tmp 15), type := 0, pos := "read.go:66", after := #[⟨7, .data⟩, ⟨5, .data⟩, ⟨0, .phase⟩, ⟨1, .phase⟩, ⟨2, .phase⟩, ⟨3, .phase⟩, ⟨4, .phase⟩, ⟨5, .phase⟩, ⟨6, .phase⟩, ⟨7, .phase⟩, { on := 12, ground := Ground.gcOnly Departure.appendInPlace }], guard := none }) (v := ?_) rfl (by kernel_rfl) (by kernel_rfl) (by kernel_rfl) (fun _ _ _ h => h) (Or.inl ⟨by rfl, ?_⟩) (by assumption) ?_
    rotate_left
    · intro w hSw; obtain ⟨s0, s1, s2, s3, s4, s5⟩ := Box.six hSw; go_simp; (try with_reducible rfl)
    simp only [Act.put, List.setIfInBounds_toArray, List.set_cons_zero, List.set_cons_succ]
    refine wpAnyH_take (i := 10) (oi := { dst := some 19, op := Op.nilCheck (Operand.tmp 10), type := 0, pos := "read.go:66", after := #[⟨0, .data⟩, ⟨0, .phase⟩, ⟨1, .phase⟩, ⟨2, .phase⟩, ⟨3, .phase⟩, ⟨4, .phase⟩, ⟨5, .phase⟩, ⟨6, .phase⟩, ⟨7, .phase⟩, { on := 8, ground := Ground.textOnly Departure.appendInPlace }, { on := 9, ground := Ground.textOnly Departure.appendInPlace }], guard := none }) (v := ?_) rfl (by kernel_rfl) (by kernel_rfl) (by kernel_rfl) (fun _ _ _ h => h) (Or.inl ⟨by rfl, ?_⟩) (by assumption) ?_
    rotate_left
    · intro w hSw; obtain ⟨s0, s1, s2, s3, s4, s5⟩ := Box.six hSw; go_simp; (try with_reducible rfl)
    simp only [Act.put, List.setIfInBounds_toArray, List.set_cons_zero, List.set_cons_succ]
    refine wpAnyH_take (i := 11) (oi := { dst := some 20, op := Op.fieldAddr 72 (Operand.tmp 19) 0, type := 0, pos := "read.go:66", after := #[⟨10, .data⟩, ⟨0, .phase⟩, ⟨1, .phase⟩, ⟨2, .phase⟩, ⟨3, .phase⟩, ⟨4, .phase⟩, ⟨5, .phase⟩, ⟨6, .phase⟩, ⟨7, .phase⟩, { on := 8, ground := Ground.textOnly Departure.appendInPlace }, { on := 9, ground := Ground.textOnly Departure.appendInPlace }], guard := none }) (v := ?_) rfl (by kernel_rfl) (by kernel_rfl) (by kernel_rfl) (fun _ _ _ h => h) (Or.inl ⟨by rfl, ?_⟩) (by assumption) ?_
    rotate_left
    · intro w hSw; obtain ⟨s0, s1, s2, s3, s4, s5⟩ := Box.six hSw; go_simp; (try with_reducible rfl)
    simp only [Act.put, List.setIfInBounds_toArray, List.set_cons_zero, List.set_cons_succ]
    refine wpAnyH_ready (rs := [9, 12]) (by kernel_rfl) (by simp) ?_
    refine AllReadyH.cons (o := { dst := none, op := Op.store 37 (Operand.tmp 18) (Operand.tmp 14), type := 0, pos := "read.go:66", after := #[⟨8, .data⟩, ⟨4, .data⟩, ⟨7, .chain⟩, ⟨0, .phase⟩, ⟨1, .phase⟩, ⟨2, .phase⟩, ⟨3, .phase⟩, ⟨4, .phase⟩, ⟨5, .phase⟩, ⟨6, .phase⟩, ⟨7, .phase⟩, { on := 12, ground := Ground.gcOnly Departure.appendInPlace }], guard := none }) rfl (fun KK hKK => ?_) (AllReadyH.cons (o := { dst := none, op := Op.store 24 (Operand.tmp 20) (Operand.tmp 17), type := 0, pos := "read.go:66", after := #[⟨11, .data⟩, ⟨7, .data⟩, ⟨7, .chain⟩, { on := 9, ground := Ground.textOnly Departure.appendInPlace }, ⟨0, .phase⟩, ⟨1, .phase⟩, ⟨2, .phase⟩, ⟨3, .phase⟩, ⟨4, .phase⟩, ⟨5, .phase⟩, ⟨6, .phase⟩, ⟨7, .phase⟩, { on := 8, ground := Ground.textOnly Departure.appendInPlace }, { on := 9, ground := Ground.textOnly Departure.appendInPlace }], guard := none }) rfl (fun KK hKK => ?_) AllReadyH.nil)
    · go_simp
      have d0A : ((((((w3.setCell ⟨g, n * 6, none⟩ (.int .i64 p.kind)).setCell ⟨g, n * 6 + 1, none⟩ (.string (BA p.text))).setCell ⟨g, n * 6 + 2, none⟩ (.bool p.quote)).setCell ⟨g, n * 6 + 3, none⟩ (.int .i64 p.op)).setCell ⟨g, n * 6 + 4, none⟩ (.bool p.colon)).setCell ⟨g, n * 6 + 5, none⟩ (.slice va vn vc)).cell? ⟨b, 0, none⟩ = some (.slice ad n cap) := Blk.cell (show Blk (T6 w3 g (n * 6) (.int .i64 p.kind) (.string (BA p.text)) (.bool p.quote) (.int .i64 p.op) (.bool p.colon) (.slice va vn vc)) b 72 _ from (unhide HM).blk.grownS (T6_grown ..) (unhide HM).bg) 0 rfl
      have z0A : ((((((w3.setCell ⟨g, n * 6, none⟩ (.int .i64 p.kind)).setCell ⟨g, n * 6 + 1, none⟩ (.string (BA p.text))).setCell ⟨g, n * 6 + 2, none⟩ (.bool p.quote)).setCell ⟨g, n * 6 + 3, none⟩ (.int .i64 p.op)).setCell ⟨g, n * 6 + 4, none⟩ (.bool p.colon)).setCell ⟨g, n * 6 + 5, none⟩ (.slice va vn vc)).frozen? ⟨b, 0, none⟩ = false := Blk.frozen (show Blk (T6 w3 g (n * 6) (.int .i64 p.kind) (.string (BA p.text)) (.bool p.quote) (.int .i64 p.op) (.bool p.colon) (.slice va vn vc)) b 72 _ from (unhide HM).blk.grownS (T6_grown ..) (unhide HM).bg) 0
      refine hKK.out _ _ (by exact show Box (T6 w3 g (n * 6) (.int .i64 p.kind) (.string (BA p.text)) (.bool p.quote) (.int .i64 p.op) (.bool p.colon) (.slice va vn vc)) w.heap.size p (.slice va vn vc) from Blk.grownS (unhide HM).box (T6_grown ..) (unhide HM).qg) (fun hHeld => ?_)
      clear hKK KK
      try simp only [Act.put, List.setIfInBounds_toArray, List.set_cons_zero, List.set_cons_succ]
      refine wpAnyH_ready (rs := [12]) (by kernel_rfl) (by simp) ?_
      refine AllReadyH.cons (o := { dst := none, op := Op.store 24 (Operand.tmp 20) (Operand.tmp 17), type := 0, pos := "read.go:66", after := #[⟨11, .data⟩, ⟨7, .data⟩, ⟨7, .chain⟩, { on := 9, ground := Ground.textOnly Departure.appendInPlace }, ⟨0, .phase⟩, ⟨1, .phase⟩, ⟨2, .phase⟩, ⟨3, .phase⟩, ⟨4, .phase⟩, ⟨5, .phase⟩, ⟨6, .phase⟩, ⟨7, .phase⟩, { on := 8, ground := Ground.textOnly Departure.appendInPlace }, { on := 9, ground := Ground.textOnly Departure.appendInPlace }], guard := none }) rfl (fun KK hKK => ?_) AllReadyH.nil
      go_simp
      refine hKK.out _ _ (by exact show Box ((T6 w3 g (n * 6) (.int .i64 p.kind) (.string (BA p.text)) (.bool p.quote) (.int .i64 p.op) (.bool p.colon) (.slice va vn vc)).setCell ⟨b, 0, none⟩ (.slice (some ⟨g, 0, none⟩) (n + 1) cg)) w.heap.size p (.slice va vn vc) from Blk.grownS (Blk.grownS (unhide HM).box (T6_grown ..) (unhide HM).qg) (setb_grown _ _ _ _) (unhide HM).qb) (fun hHeld => ?_)
      clear hKK KK
      try simp only [Act.put, List.setIfInBounds_toArray, List.set_cons_zero, List.set_cons_succ]
      clear hHeld
      refine wpAnyH_done (by kernel_rfl) ?_ _
      obtain ⟨w5, hw5⟩ : ∃ x, x = (((((((w3.setCell ⟨g, n * 6, none⟩ (.int .i64 p.kind)).setCell ⟨g, n * 6 + 1, none⟩ (.string (BA p.text))).setCell ⟨g, n * 6 + 2, none⟩ (.bool p.quote)).setCell ⟨g, n * 6 + 3, none⟩ (.int .i64 p.op)).setCell ⟨g, n * 6 + 4, none⟩ (.bool p.colon)).setCell ⟨g, n * 6 + 5, none⟩ (.slice va vn vc)).setCell ⟨b, 0, none⟩ (.slice (some ⟨g, 0, none⟩) (n + 1) cg)) := ⟨_, rfl⟩
      have H5 : Hid (LSg w5 b (fun k => X k ∨ k = g) (L2 ++ [(p, .slice va vn vc)]) [] (.slice (some ⟨g, 0, none⟩) (n + 1) cg) (.slice none 0 0) ∧ Box w5 w.heap.size p (.slice va vn vc)) := hide (by rw [hw5]; exact add_finA (unhide HM) (unhide H2) (unhide HN) (unhide HO3) (unhide HSUB) (unhide HIN))
      have HG5 : Hid (GrownS w w5 X ∧ ∀ k, X k ∨ k = g → X k ∨ w.heap.size ≤ k) := hide (by rw [hw5]; exact add_grownA (unhide HM) (unhide H2) (unhide HG2))
      rw [← hw5]
      clear hw5 d0 z0 e0a e1a e2a e3a e4a e5a e0b e1b e2b e3b e4b e5b c0a d0A z0A HM HO3 HBX1
      have f1 : w5.cell? ⟨b, 1, none⟩ = some (.slice none 0 0) := (unhide H5).1.blk.cell 1 rfl
      have q0 : w5.cell? ⟨w.heap.size, 0, none⟩ = some (.int .i64 p.kind) := (unhide H5).2.six.1
      go_wp2_with fail
      refine wp_region_held_drew (S := fun w' => Box w' w.heap.size p (.slice va vn vc)) (by kernel_rfl) (by exact (unhide H5).2) (fun hHeld => ?_)
      refine wpAnyH_take (i := 0) (oi := { dst := some 24, op := Op.move (Operand.tmp 0), type := 91, pos := "read.go:69", after := #[], guard := none }) (v := ?_) rfl (by kernel_rfl) (by kernel_rfl) (by kernel_rfl) (fun _ _ _ h => h) (Or.inl ⟨by rfl, ?_⟩) (by assumption) ?_
      rotate_left
      · intro w hSw; obtain ⟨s0, s1, s2, s3, s4, s5⟩ := Box.six hSw; go_simp; (try with_reducible rfl)
      simp only [Act.put, List.setIfInBounds_toArray, List.set_cons_zero, List.set_cons_succ]
      refine wpAnyH_take (i := 1) (oi := { dst := some 25, op := Op.move (Operand.tmp 0), type := 91, pos := "read.go:69", after := #[], guard := none }) (v := ?_) rfl (by kernel_rfl) (by kernel_rfl) (by kernel_rfl) (fun _ _ _ h => h) (Or.inl ⟨by rfl, ?_⟩) (by assumption) ?_
      rotate_left
      · intro w hSw; obtain ⟨s0, s1, s2, s3, s4, s5⟩ := Box.six hSw; go_simp; (try with_reducible rfl)
      simp only [Act.put, List.setIfInBounds_toArray, List.set_cons_zero, List.set_cons_succ]
      refine wpAnyH_take (i := 2) (oi := { dst := some 26, op := Op.nilCheck (Operand.tmp 25), type := 0, pos := "read.go:69", after := #[⟨1, .data⟩], guard := none }) (v := ?_) rfl (by kernel_rfl) (by kernel_rfl) (by kernel_rfl) (fun _ _ _ h => h) (Or.inl ⟨by rfl, ?_⟩) (by assumption) ?_
      rotate_left
      · intro w hSw; obtain ⟨s0, s1, s2, s3, s4, s5⟩ := Box.six hSw; go_simp; (try with_reducible rfl)
      simp only [Act.put, List.setIfInBounds_toArray, List.set_cons_zero, List.set_cons_succ]
      refine wpAnyH_take (i := 3) (oi := { dst := some 27, op := Op.fieldAddr 72 (Operand.tmp 26) 1, type := 0, pos := "read.go:69", after := #[⟨2, .data⟩], guard := none }) (v := ?_) rfl (by kernel_rfl) (by kernel_rfl) (by kernel_rfl) (fun _ _ _ h => h) (Or.inl ⟨by rfl, ?_⟩) (by assumption) ?_
      rotate_left
      · intro w hSw; obtain ⟨s0, s1, s2, s3, s4, s5⟩ := Box.six hSw; go_simp; (try with_reducible rfl)
      simp only [Act.put, List.setIfInBounds_toArray, List.set_cons_zero, List.set_cons_succ]
      refine wpAnyH_take (i := 5) (oi := { dst := some 29, op := Op.fieldAddr 37 (Operand.tmp 3) 1, type := 0, pos := "read.go:69", after := #[], guard := none }) (v := ?_) rfl (by kernel_rfl) (by kernel_rfl) (by kernel_rfl) (fun _ _ _ h => h) (Or.inl ⟨by rfl, ?_⟩) (by assumption) ?_
      rotate_left
      · intro w hSw; obtain ⟨s0, s1, s2, s3, s4, s5⟩ := Box.six hSw; go_simp; (try with_reducible rfl)
      simp only [Act.put, List.setIfInBounds_toArray, List.set_cons_zero, List.set_cons_succ]
      refine wpAnyH_take (i := 6) (oi := { dst := some 30, op := Op.load 9 (Operand.tmp 29), type := 9, pos := "read.go:69", after := #[⟨5, .data⟩], guard := none }) (v := ?_) rfl (by kernel_rfl) (by kernel_rfl) (by kernel_rfl) (fun _ _ _ h => h) (Or.inl ⟨by rfl, ?_⟩) (by assumption) ?_
      rotate_left
      · intro w hSw; obtain ⟨s0, s1, s2, s3, s4, s5⟩ := Box.six hSw; go_simp; (try with_reducible rfl)
      simp only [Act.put, List.setIfInBounds_toArray, List.set_cons_zero, List.set_cons_succ]
      refine wpAnyH_ready (rs := [4]) (by kernel_rfl) (by simp) ?_
      refine AllReadyH.cons (o := { dst := some 28, op := Op.load 49 (Operand.tmp 27), type := 49, pos := "read.go:69", after := #[⟨3, .data⟩], guard := none }) rfl (fun KK hKK => ?_) AllReadyH.nil
      go_simp
      refine hKK.out _ _ (by exact (unhide H5).2) (fun hHeld => ?_)
      clear hKK KK
      try simp only [Act.put, List.setIfInBounds_toArray, List.set_cons_zero, List.set_cons_succ]
      refine wpAnyH_ready (rs := [7]) (by kernel_rfl) (by simp) ?_
      refine AllReadyH.cons (o := { dst := some 31, op := Op.call { callee := Callee.builtin Builtin.append, args := #[Operand.tmp 28, Operand.tmp 30], argTypes := #[49, 9] }, type := 49, pos := "read.go:69", after := #[⟨4, .data⟩, ⟨6, .data⟩], guard := none }) rfl (fun KK hKK => ?_) AllReadyH.nil
      refine step_append_str (by rfl) _ _ _ _ (by rfl) (b + 1) 5 i0 und_bytes und_str hi hz0 hz1 hz2 (.slice none 0 0) (List.length []) (Lib.byteCells []) (by simp [Act.eval]) (own_drew (unhide H5).1.own) (BA p.text) (by simp [Act.eval]) (by have h1 := unhide HLT; unfold maxLen; simp at h1 ⊢; omega) (by have h1 := unhide HLT; simp at h1 ⊢; omega) (by have h1 := (unhide H5).1.blk.lt; simp; omega) ?_
      intro v6 w6 hown6 hgrow6 hat6
      obtain ⟨v6a, v6n, v6c, hv6⟩ := slice_own hown6
      subst hv6
      have H7 := hide ((unhide H5).1.setB (w1 := w6) ((grownS_of_below (below_drew _ 1)).trans (GrownS.of hgrow6 (fun _ e => e))) (own_push (l := []) (c := p.text) (by simp) rfl hown6) hat6)
      have H6X := hide hat6
      have f6 : w6.cell? ⟨b, 1, none⟩ = some (.slice none 0 0) := (Blk.kept (blk_drew (unhide H5).1.blk) hgrow6 (own_type (own_drew (unhide H5).1.own) (blk_drew (unhide H5).1.blk) (by decide))).cell 1 rfl
      have y6 : w6.frozen? ⟨b, 1, none⟩ = false := (Blk.kept (blk_drew (unhide H5).1.blk) hgrow6 (own_type (own_drew (unhide H5).1.own) (blk_drew (unhide H5).1.blk) (by decide))).frozen 1
      have HB6 : Hid (Box w6 w.heap.size p (.slice va vn vc)) := hide (Blk.kept (blk_drew (unhide H5).2) hgrow6 (own_type (own_drew (unhide H5).1.own) (blk_drew (unhide H5).2) (by decide)))
      clear hown6 hgrow6 hat6
      refine hKK.out _ _ (by exact unhide HB6) (fun hHeld => ?_)
      clear hKK KK
      try simp only [Act.put, List.setIfInBounds_toArray, List.set_cons_zero, List.set_cons_succ]
      refine wpAnyH_take (i := 8) (oi := { dst := some 32, op := Op.nilCheck (Operand.tmp 24), type := 0, pos := "read.go:69", after := #[⟨0, .data⟩, ⟨0, .phase⟩, ⟨1, .phase⟩, ⟨2, .phase⟩, ⟨3, .phase⟩, ⟨4, .phase⟩, ⟨5, .phase⟩, ⟨6, .phase⟩, ⟨7, .phase⟩], guard := none }) (v := ?_) rfl (by kernel_rfl) (by kernel_rfl) (by kernel_rfl) (fun _ _ _ h => h) (Or.inl ⟨by rfl, ?_⟩) (by assumption) ?_
      rotate_left
      · intro w hSw; obtain ⟨s0, s1, s2, s3, s4, s5⟩ := Box.six hSw; go_simp; (try with_reducible rfl)
      simp only [Act.put, List.setIfInBounds_toArray, List.set_cons_zero, List.set_cons_succ]
      refine wpAnyH_take (i := 9) (oi := { dst := some 33, op := Op.fieldAddr 72 (Operand.tmp 32) 1, type := 0, pos := "read.go:69", after := #[⟨8, .data⟩, ⟨0, .phase⟩, ⟨1, .phase⟩, ⟨2, .phase⟩, ⟨3, .phase⟩, ⟨4, .phase⟩, ⟨5, .phase⟩, ⟨6, .phase⟩, ⟨7, .phase⟩], guard := none }) (v := ?_) rfl (by kernel_rfl) (by kernel_rfl) (by kernel_rfl) (fun _ _ _ h => h) (Or.inl ⟨by rfl, ?_⟩) (by assumption) ?_
      rotate_left
      · intro w hSw; obtain ⟨s0, s1, s2, s3, s4, s5⟩ := Box.six hSw; go_simp; (try with_reducible rfl)
      simp only [Act.put, List.setIfInBounds_toArray, List.set_cons_zero, List.set_cons_succ]
      refine wpAnyH_ready (rs := [10]) (by kernel_rfl) (by simp) ?_
      refine AllReadyH.cons (o := { dst := none, op := Op.store 49 (Operand.tmp 33) (Operand.tmp 31), type := 0, pos := "read.go:69", after := #[⟨9, .data⟩, ⟨7, .data⟩, ⟨7, .chain⟩, ⟨0, .phase⟩, ⟨1, .phase⟩, ⟨2, .phase⟩, ⟨3, .phase⟩, ⟨4, .phase⟩, ⟨5, .phase⟩, ⟨6, .phase⟩, ⟨7, .phase⟩], guard := none }) rfl (fun KK hKK => ?_) AllReadyH.nil
      go_simp
      refine hKK.out _ _ (by exact Blk.grownS (unhide HB6) (setb_grown _ _ _ _) (unhide HQB)) (fun hHeld => ?_)
      clear hKK KK
      try simp only [Act.put, List.setIfInBounds_toArray, List.set_cons_zero, List.set_cons_succ]
      clear hHeld
      refine wpAnyH_done (by kernel_rfl) ?_ _
      go_wp2
      refine bodyPost_end (res0 rfl _ _) rfl ?_
      exact ⟨rfl, end_lit (unhide HPS) (unhide HGO) (unhide HKK) (by rw [← unhide HPS2]; exact (unhide H7).1) (unhide HG5).1 (unhide HG5).2 (unhide H7).2 (unhide H6X)⟩
    · go_simp
      have HOB : Hid (World.ownsRow (w3.setCell ⟨b, 0, none⟩ (.slice (some ⟨g, 0, none⟩) (n + 1) cg)) (b + 1) 37 6 (.slice (some ⟨g, 0, none⟩) (n + 1) cg) (n + 1) (flatP L2 ++ [.int .i64 0, .string ⟨#[]⟩, .bool false, .int .i64 0, .bool false, .slice none 0 0])) := hide (own_grownS (unhide HO3) (setb_grown _ _ _ _) (fun k hk e => (unhide HM).bg ((ownb hk).trans e).symm))
      have t0 := own_cell (j := n * 6) (unhide HOB) (zero_at (unhide HN) 0)
      have t1 := own_cell (j := n * 6 + 1) (unhide HOB) (zero_at (unhide HN) 1)
      have t2 := own_cell (j := n * 6 + 2) (unhide HOB) (zero_at (unhide HN) 2)
      have t3 := own_cell (j := n * 6 + 3) (unhide HOB) (zero_at (unhide HN) 3)
      have t4 := own_cell (j := n * 6 + 4) (unhide HOB) (zero_at (unhide HN) 4)
      have t5 := own_cell (j := n * 6 + 5) (unhide HOB) (zero_at (unhide HN) 5)
      obtain ⟨t0a, t0b⟩ := t0
      obtain ⟨t1a, t1b⟩ := t1
      obtain ⟨t2a, t2b⟩ := t2
      obtain ⟨t3a, t3b⟩ := t3
      obtain ⟨t4a, t4b⟩ := t4
      obtain ⟨t5a, t5b⟩ := t5
      refine hKK.out _ _ (by exact Blk.grownS (unhide HM).box (setb_grown _ _ _ _) (unhide HM).qb) (fun hHeld => ?_)
      clear hKK KK
      try simp only [Act.put, List.setIfInBounds_toArray, List.set_cons_zero, List.set_cons_succ]
      refine wpAnyH_ready (rs := [9]) (by kernel_rfl) (by simp) ?_
      refine AllReadyH.cons (o := { dst := none, op := Op.store 37 (Operand.tmp 18) (Operand.tmp 14), type := 0, pos := "read.go:66", after := #[⟨8, .data⟩, ⟨4, .data⟩, ⟨7, .chain⟩, ⟨0, .phase⟩, ⟨1, .phase⟩, ⟨2, .phase⟩, ⟨3, .phase⟩, ⟨4, .phase⟩, ⟨5, .phase⟩, ⟨6, .phase⟩, ⟨7, .phase⟩, { on := 12, ground := Ground.gcOnly Departure.appendInPlace }], guard := none }) rfl (fun KK hKK => ?_) AllReadyH.nil
      go_simp
      refine hKK.out _ _ (by exact show Box (T6 (w3.setCell ⟨b, 0, none⟩ (.slice (some ⟨g, 0, none⟩) (n + 1) cg)) g (n * 6) (.int .i64 p.kind) (.string (BA p.text)) (.bool p.quote) (.int .i64 p.op) (.bool p.colon) (.slice va vn vc)) w.heap.size p (.slice va vn vc) from Blk.grownS (Blk.grownS (unhide HM).box (setb_grown _ _ _ _) (unhide HM).qb) (T6_grown ..) (unhide HM).qg) (fun hHeld => ?_)
      clear hKK KK
      try simp only [Act.put, List.setIfInBounds_toArray, List.set_cons_zero, List.set_cons_succ]
      clear hHeld
      refine wpAnyH_done (by kernel_rfl) ?_ _
      obtain ⟨w5, hw5⟩ : ∃ x, x = (((((((w3.setCell ⟨b, 0, none⟩ (.slice (some ⟨g, 0, none⟩) (n + 1) cg)).setCell ⟨g, n * 6, none⟩ (.int .i64 p.kind)).setCell ⟨g, n * 6 + 1, none⟩ (.string (BA p.text))).setCell ⟨g, n * 6 + 2, none⟩ (.bool p.quote)).setCell ⟨g, n * 6 + 3, none⟩ (.int .i64 p.op)).setCell ⟨g, n * 6 + 4, none⟩ (.bool p.colon)).setCell ⟨g, n * 6 + 5, none⟩ (.slice va vn vc)) := ⟨_, rfl⟩
      have H5 : Hid (LSg w5 b (fun k => X k ∨ k = g) (L2 ++ [(p, .slice va vn vc)]) [] (.slice (some ⟨g, 0, none⟩) (n + 1) cg) (.slice none 0 0) ∧ Box w5 w.heap.size p (.slice va vn vc)) := hide (by rw [hw5]; exact add_finB (unhide HM) (unhide H2) (unhide HN) (unhide HO3) (unhide HSUB) (unhide HIN))
      have HG5 : Hid (GrownS w w5 X ∧ ∀ k, X k ∨ k = g → X k ∨ w.heap.size ≤ k) := hide (by rw [hw5]; exact add_grownB (unhide HM) (unhide H2) (unhide HG2))
      rw [← hw5]
      clear hw5 d0 z0 e0a e1a e2a e3a e4a e5a e0b e1b e2b e3b e4b e5b c0a t0a t1a t2a t3a t4a t5a t0b t1b t2b t3b t4b t5b HM HO3 HBX1 HOB
      have f1 : w5.cell? ⟨b, 1, none⟩ = some (.slice none 0 0) := (unhide H5).1.blk.cell 1 rfl
      have q0 : w5.cell? ⟨w.heap.size, 0, none⟩ = some (.int .i64 p.kind) := (unhide H5).2.six.1
      go_wp2_with fail
      refine wp_region_held_drew (S := fun w' => Box w' w.heap.size p (.slice va vn vc)) (by kernel_rfl) (by exact (unhide H5).2) (fun hHeld => ?_)
      refine wpAnyH_take (i := 0) (oi := { dst := some 24, op := Op.move (Operand.tmp 0), type := 91, pos := "read.go:69", after := #[], guard := none }) (v := ?_) rfl (by kernel_rfl) (by kernel_rfl) (by kernel_rfl) (fun _ _ _ h => h) (Or.inl ⟨by rfl, ?_⟩) (by assumption) ?_
      rotate_left
      · intro w hSw; obtain ⟨s0, s1, s2, s3, s4, s5⟩ := Box.six hSw; go_simp; (try with_reducible rfl)
      simp only [Act.put, List.setIfInBounds_toArray, List.set_cons_zero, List.set_cons_succ]
      refine wpAnyH_take (i := 1) (oi := { dst := some 25, op := Op.move (Operand.tmp 0), type := 91, pos := "read.go:69", after := #[], guard := none }) (v := ?_) rfl (by kernel_rfl) (by kernel_rfl) (by kernel_rfl) (fun _ _ _ h => h) (Or.inl ⟨by rfl, ?_⟩) (by assumption) ?_
      rotate_left
      · intro w hSw; obtain ⟨s0, s1, s2, s3, s4, s5⟩ := Box.six hSw; go_simp; (try with_reducible rfl)
      simp only [Act.put, List.setIfInBounds_toArray, List.set_cons_zero, List.set_cons_succ]
      refine wpAnyH_take (i := 2) (oi := { dst := some 26, op := Op.nilCheck (Operand.tmp 25), type := 0, pos := "read.go:69", after := #[⟨1, .data⟩], guard := none }) (v := ?_) rfl (by kernel_rfl) (by kernel_rfl) (by kernel_rfl) (fun _ _ _ h => h) (Or.inl ⟨by rfl, ?_⟩) (by assumption) ?_
      rotate_left
      · intro w hSw; obtain ⟨s0, s1, s2, s3, s4, s5⟩ := Box.six hSw; go_simp; (try with_reducible rfl)
      simp only [Act.put, List.setIfInBounds_toArray, List.set_cons_zero, List.set_cons_succ]
      refine wpAnyH_take (i := 3) (oi := { dst := some 27, op := Op.fieldAddr 72 (Operand.tmp 26) 1, type := 0, pos := "read.go:69", after := #[⟨2, .data⟩], guard := none }) (v := ?_) rfl (by kernel_rfl) (by kernel_rfl) (by kernel_rfl) (fun _ _ _ h => h) (Or.inl ⟨by rfl, ?_⟩) (by assumption) ?_
      rotate_left
      · intro w hSw; obtain ⟨s0, s1, s2, s3, s4, s5⟩ := Box.six hSw; go_simp; (try with_reducible rfl)
      simp only [Act.put, List.setIfInBounds_toArray, List.set_cons_zero, List.set_cons_succ]
      refine wpAnyH_take (i := 5) (oi := { dst := some 29, op := Op.fieldAddr 37 (Operand.tmp 3) 1, type := 0, pos := "read.go:69", after := #[], guard := none }) (v := ?_) rfl (by kernel_rfl) (by kernel_rfl) (by kernel_rfl) (fun _ _ _ h => h) (Or.inl ⟨by rfl, ?_⟩) (by assumption) ?_
      rotate_left
      · intro w hSw; obtain ⟨s0, s1, s2, s3, s4, s5⟩ := Box.six hSw; go_simp; (try with_reducible rfl)
      simp only [Act.put, List.setIfInBounds_toArray, List.set_cons_zero, List.set_cons_succ]
      refine wpAnyH_take (i := 6) (oi := { dst := some 30, op := Op.load 9 (Operand.tmp 29), type := 9, pos := "read.go:69", after := #[⟨5, .data⟩], guard := none }) (v := ?_) rfl (by kernel_rfl) (by kernel_rfl) (by kernel_rfl) (fun _ _ _ h => h) (Or.inl ⟨by rfl, ?_⟩) (by assumption) ?_
      rotate_left
      · intro w hSw; obtain ⟨s0, s1, s2, s3, s4, s5⟩ := Box.six hSw; go_simp; (try with_reducible rfl)
      simp only [Act.put, List.setIfInBounds_toArray, List.set_cons_zero, List.set_cons_succ]
      refine wpAnyH_ready (rs := [4]) (by kernel_rfl) (by simp) ?_
      refine AllReadyH.cons (o := { dst := some 28, op := Op.load 49 (Operand.tmp 27), type := 49, pos := "read.go:69", after := #[⟨3, .data⟩], guard := none }) rfl (fun KK hKK => ?_) AllReadyH.nil
      go_simp
      refine hKK.out _ _ (by exact (unhide H5).2) (fun hHeld => ?_)
      clear hKK KK
      try simp only [Act.put, List.setIfInBounds_toArray, List.set_cons_zero, List.set_cons_succ]
      refine wpAnyH_ready (rs := [7]) (by kernel_rfl) (by simp) ?_
      refine AllReadyH.cons (o := { dst := some 31, op := Op.call { callee := Callee.builtin Builtin.append, args := #[Operand.tmp 28, Operand.tmp 30], argTypes := #[49, 9] }, type := 49, pos := "read.go:69", after := #[⟨4, .data⟩, ⟨6, .data⟩], guard := none }) rfl (fun KK hKK => ?_) AllReadyH.nil
      refine step_append_str (by rfl) _ _ _ _ (by rfl) (b + 1) 5 i0 und_bytes und_str hi hz0 hz1 hz2 (.slice none 0 0) (List.length []) (Lib.byteCells []) (by simp [Act.eval]) (own_drew (unhide H5).1.own) (BA p.text) (by simp [Act.eval]) (by have h1 := unhide HLT; unfold maxLen; simp at h1 ⊢; omega) (by have h1 := unhide HLT; simp at h1 ⊢; omega) (by have h1 := (unhide H5).1.blk.lt; simp; omega) ?_
      intro v6 w6 hown6 hgrow6 hat6
      obtain ⟨v6a, v6n, v6c, hv6⟩ := slice_own hown6
      subst hv6
      have H7 := hide ((unhide H5).1.setB (w1 := w6) ((grownS_of_below (below_drew _ 1)).trans (GrownS.of hgrow6 (fun _ e => e))) (own_push (l := []) (c := p.text) (by simp) rfl hown6) hat6)
      have H6X := hide hat6
      have f6 : w6.cell? ⟨b, 1, none⟩ = some (.slice none 0 0) := (Blk.kept (blk_drew (unhide H5).1.blk) hgrow6 (own_type (own_drew (unhide H5).1.own) (blk_drew (unhide H5).1.blk) (by decide))).cell 1 rfl
      have y6 : w6.frozen? ⟨b, 1, none⟩ = false := (Blk.kept (blk_drew (unhide H5).1.blk) hgrow6 (own_type (own_drew (unhide H5).1.own) (blk_drew (unhide H5).1.blk) (by decide))).frozen 1
      have HB6 : Hid (Box w6 w.heap.size p (.slice va vn vc)) := hide (Blk.kept (blk_drew (unhide H5).2) hgrow6 (own_type (own_drew (unhide H5).1.own) (blk_drew (unhide H5).2) (by decide)))
      clear hown6 hgrow6 hat6
      refine hKK.out _ _ (by exact unhide HB6) (fun hHeld => ?_)
      clear hKK KK
      try simp only [Act.put, List.setIfInBounds_toArray, List.set_cons_zero, List.set_cons_succ]
      refine wpAnyH_take (i := 8) (oi := { dst := some 32, op := Op.nilCheck (Operand.tmp 24), type := 0, pos := "read.go:69", after := #[⟨0, .data⟩, ⟨0, .phase⟩, ⟨1, .phase⟩, ⟨2, .phase⟩, ⟨3, .phase⟩, ⟨4, .phase⟩, ⟨5, .phase⟩, ⟨6, .phase⟩, ⟨7, .phase⟩], guard := none }) (v := ?_) rfl (by kernel_rfl) (by kernel_rfl) (by kernel_rfl) (fun _ _ _ h => h) (Or.inl ⟨by rfl, ?_⟩) (by assumption) ?_
      rotate_left
      · intro w hSw; obtain ⟨s0, s1, s2, s3, s4, s5⟩ := Box.six hSw; go_simp; (try with_reducible rfl)
      simp only [Act.put, List.setIfInBounds_toArray, List.set_cons_zero, List.set_cons_succ]
      refine wpAnyH_take (i := 9) (oi := { dst := some 33, op := Op.fieldAddr 72 (Operand.tmp 32) 1, type := 0, pos := "read.go:69", after := #[⟨8, .data⟩, ⟨0, .phase⟩, ⟨1, .phase⟩, ⟨2, .phase⟩, ⟨3, .phase⟩, ⟨4, .phase⟩, ⟨5, .phase⟩, ⟨6, .phase⟩, ⟨7, .phase⟩], guard := none }) (v := ?_) rfl (by kernel_rfl) (by kernel_rfl) (by kernel_rfl) (fun _ _ _ h => h) (Or.inl ⟨by rfl, ?_⟩) (by assumption) ?_
      rotate_left
      · intro w hSw; obtain ⟨s0, s1, s2, s3, s4, s5⟩ := Box.six hSw; go_simp; (try with_reducible rfl)
      simp only [Act.put, List.setIfInBounds_toArray, List.set_cons_zero, List.set_cons_succ]
      refine wpAnyH_ready (rs := [10]) (by kernel_rfl) (by simp) ?_
      refine AllReadyH.cons (o := { dst := none, op := Op.store 49 (Operand.tmp 33) (Operand.tmp 31), type := 0, pos := "read.go:69", after := #[⟨9, .data⟩, ⟨7, .data⟩, ⟨7, .chain⟩, ⟨0, .phase⟩, ⟨1, .phase⟩, ⟨2, .phase⟩, ⟨3, .phase⟩, ⟨4, .phase⟩, ⟨5, .phase⟩, ⟨6, .phase⟩, ⟨7, .phase⟩], guard := none }) rfl (fun KK hKK => ?_) AllReadyH.nil
      go_simp
      refine hKK.out _ _ (by exact Blk.grownS (unhide HB6) (setb_grown _ _ _ _) (unhide HQB)) (fun hHeld => ?_)
      clear hKK KK
      try simp only [Act.put, List.setIfInBounds_toArray, List.set_cons_zero, List.set_cons_succ]
      clear hHeld
      refine wpAnyH_done (by kernel_rfl) ?_ _
      go_wp2
      refine bodyPost_end (res0 rfl _ _) rfl ?_
      exact ⟨rfl, end_lit (unhide HPS) (unhide HGO) (unhide HKK) (by rw [← unhide HPS2]; exact (unhide H7).1) (unhide HG5).1 (unhide HG5).2 (unhide H7).2 (unhide H6X)⟩
  · go_simp
    have c0a : (w2.alloc (.cells #[.int .i64 0, .string ⟨#[]⟩, .bool false, .int .i64 0, .bool false, .slice none 0 0] 37)).cell? ⟨b, 0, none⟩ = some (.slice ad n cap) := cell_alloc c0 _
    have HBX1 : Hid (Box (w2.alloc (.cells #[.int .i64 0, .string ⟨#[]⟩, .bool false, .int .i64 0, .bool false, .slice none 0 0] 37)) w.heap.size p (.slice va vn vc)) := hide (Blk.alloc (unhide HBX) _)
    refine hKK.out _ _ (by exact unhide HBX1) (fun hHeld => ?_)
    clear hKK KK
    try simp only [Act.put, List.setIfInBounds_toArray, List.set_cons_zero, List.set_cons_succ]
    refine wpAnyH_ready (rs := [3]) (by kernel_rfl) (by simp) ?_
    refine AllReadyH.cons (o := { dst := some 13, op := Op.load 24 (Operand.tmp 12), type := 24, pos := "read.go:66", after := #[⟨2, .data⟩], guard := none }) rfl (fun KK hKK => ?_) AllReadyH.nil
    go_simp
    refine hKK.out _ _ (by exact unhide HBX1) (fun hHeld => ?_)
    clear hKK KK
    try simp only [Act.put, List.setIfInBounds_toArray, List.set_cons_zero, List.set_cons_succ]
    refine wpAnyH_take (i := 5) (oi := { dst := some 15, op := Op.call { callee := Callee.builtin Builtin.len, args := #[Operand.tmp 13], argTypes := #[24] }, type := 3, pos := "read.go:66", after := #[⟨3, .data⟩], guard := none }) (v := ?_) rfl (by kernel_rfl) (by kernel_rfl) (by kernel_rfl) (fun _ _ _ h => h) (Or.inl ⟨by rfl, ?_⟩) (by assumption) ?_
    rotate_left
    · intro w hSw; obtain ⟨s0, s1, s2, s3, s4, s5⟩ := Box.six hSw; go_simp; (try with_reducible rfl)
    simp only [Act.put, List.setIfInBounds_toArray, List.set_cons_zero, List.set_cons_succ]
    refine wpAnyH_ready (rs := [7]) (by kernel_rfl) (by simp) ?_
    refine AllReadyH.cons (o := { dst := some 17, op := Op.call { callee := Callee.builtin Builtin.append, args := #[Operand.tmp 13, Operand.tmp 16], argTypes := #[24, 24] }, type := 24, pos := "read.go:66", after := #[⟨3, .data⟩, ⟨6, .data⟩, ⟨0, .phase⟩, ⟨1, .phase⟩, ⟨2, .phase⟩, ⟨3, .phase⟩, ⟨4, .phase⟩, ⟨5, .phase⟩, ⟨6, .phase⟩], guard := none }) rfl (fun KK hKK => ?_) AllReadyH.nil
    refine step_append_lies _ (by rfl) _ _ _ (by rfl) (b + 1) 37 iT _ 6 72 und_word hiT hzT0 hzT1 hzT2 rfl (by decide) (.slice ad n cap) n (flatP L2) (by simp [Act.eval]) (own_drew (World.ownsRow.alloc (unhide HROW) _)) ⟨w2.heap.size, 0, none⟩ 1 1 [.int .i64 0, .string ⟨#[]⟩, .bool false, .int .i64 0, .bool false, .slice none 0 0] (by simp [Act.eval]) rfl six_cells zero_is (by decide) (by unfold maxLen; omega) (by omega) (by simp; omega) (w2.heap.size + 1) (by simp) ?_
    intro g cg w3 hown3 hgrow hat hlt3
    have HM := hide (add_mid (unhide H2) hown3 hgrow hat (unhide HBX) (unhide HXQ))
    have HO3 := hide hown3
    have d0 : w3.cell? ⟨b, 0, none⟩ = some (.slice ad n cap) := (unhide HM).blk.cell 0 rfl
    have z0 : w3.frozen? ⟨b, 0, none⟩ = false := (unhide HM).blk.frozen 0
    have e0 := own_cell (j := n * 6) (unhide HO3) (zero_at (unhide HN) 0)
    have e1 := own_cell (j := n * 6 + 1) (unhide HO3) (zero_at (unhide HN) 1)
    have e2 := own_cell (j := n * 6 + 2) (unhide HO3) (zero_at (unhide HN) 2)
    have e3 := own_cell (j := n * 6 + 3) (unhide HO3) (zero_at (unhide HN) 3)
    have e4 := own_cell (j := n * 6 + 4) (unhide HO3) (zero_at (unhide HN) 4)
    have e5 := own_cell (j := n * 6 + 5) (unhide HO3) (zero_at (unhide HN) 5)
    obtain ⟨e0a, e0b⟩ := e0
    obtain ⟨e1a, e1b⟩ := e1
    obtain ⟨e2a, e2b⟩ := e2
    obtain ⟨e3a, e3b⟩ := e3
    obtain ⟨e4a, e4b⟩ := e4
    obtain ⟨e5a, e5b⟩ := e5
    clear hown3 hgrow hat hlt3
    refine hKK.out _ _ (by exact (unhide HM).box) (fun hHeld => ?_)
    clear hKK KK
    try simp only [Act.put, List.setIfInBounds_toArray, List.set_cons_zero, List.set_cons_succ]
    refine wpAnyH_take (i := 8) (oi := { dst := some 18, op := Op.indexAddr 24 (Operand.tmp 17) (Operand.tmp 15), type := 0, pos := "read.go:66", after := #[⟨7, .data⟩, ⟨5, .data⟩, ⟨0, .phase⟩, ⟨1, .phase⟩, ⟨2, .phase⟩, ⟨3, .phase⟩, ⟨4, .phase⟩, ⟨5, .phase⟩, ⟨6, .phase⟩, ⟨7, .phase⟩, { on := 12, ground := Ground.gcOnly Departure.appendInPlace }], guard := none }) (v := ?_) rfl (by kernel_rfl) (by kernel_rfl) (by kernel_rfl) (fun _ _ _ h => h) (Or.inl ⟨by rfl, ?_⟩) (by assumption) ?_
    rotate_left
    · intro w hSw; obtain ⟨s0, s1, s2, s3, s4, s5⟩ := Box.six hSw; go_simp; (try with_reducible rfl)
    simp only [Act.put, List.setIfInBounds_toArray, List.set_cons_zero, List.set_cons_succ]
    refine wpAnyH_take (i := 10) (oi := { dst := some 19, op := Op.nilCheck (Operand.tmp 10), type := 0, pos := "read.go:66", after := #[⟨0, .data⟩, ⟨0, .phase⟩, ⟨1, .phase⟩, ⟨2, .phase⟩, ⟨3, .phase⟩, ⟨4, .phase⟩, ⟨5, .phase⟩, ⟨6, .phase⟩, ⟨7, .phase⟩, { on := 8, ground := Ground.textOnly Departure.appendInPlace }, { on := 9, ground := Ground.textOnly Departure.appendInPlace }], guard := none }) (v := ?_) rfl (by kernel_rfl) (by kernel_rfl) (by kernel_rfl) (fun _ _ _ h => h) (Or.inl ⟨by rfl, ?_⟩) (by assumption) ?_
    rotate_left
    · intro w hSw; obtain ⟨s0, s1, s2, s3, s4, s5⟩ := Box.six hSw; go_simp; (try with_reducible rfl)
    simp only [Act.put, List.setIfInBounds_toArray, List.set_cons_zero, List.set_cons_succ]
    refine wpAnyH_take (i := 11) (oi := { dst := some 20, op := Op.fieldAddr 72 (Operand.tmp 19) 0, type := 0, pos := "read.go:66", after := #[⟨10, .data⟩, ⟨0, .phase⟩, ⟨1, .phase⟩, ⟨2, .phase⟩, ⟨3, .phase⟩, ⟨4, .phase⟩, ⟨5, .phase⟩, ⟨6, .phase⟩, ⟨7, .phase⟩, { on := 8, ground := Ground.textOnly Departure.appendInPlace }, { on := 9, ground := Ground.textOnly Departure.appendInPlace }], guard := none }) (v := ?_) rfl (by kernel_rfl) (by kernel_rfl) (by kernel_rfl) (fun _ _ _ h => h) (Or.inl ⟨by rfl, ?_⟩) (by assumption) ?_
    rotate_left
    · intro w hSw; obtain ⟨s0, s1, s2, s3, s4, s5⟩ := Box.six hSw; go_simp; (try with_reducible rfl)
    simp only [Act.put, List.setIfInBounds_toArray, List.set_cons_zero, List.set_cons_succ]
    refine wpAnyH_ready (rs := [9, 12]) (by kernel_rfl) (by simp) ?_
    refine AllReadyH.cons (o := { dst := none, op := Op.store 37 (Operand.tmp 18) (Operand.tmp 14), type := 0, pos := "read.go:66", after := #[⟨8, .data⟩, ⟨4, .data⟩, ⟨7, .chain⟩, ⟨0, .phase⟩, ⟨1, .phase⟩, ⟨2, .phase⟩, ⟨3, .phase⟩, ⟨4, .phase⟩, ⟨5, .phase⟩, ⟨6, .phase⟩, ⟨7, .phase⟩, { on := 12, ground := Ground.gcOnly Departure.appendInPlace }], guard := none }) rfl (fun KK hKK => ?_) (AllReadyH.cons (o := { dst := none, op := Op.store 24 (Operand.tmp 20) (Operand.tmp 17), type := 0, pos := "read.go:66", after := #[⟨11, .data⟩, ⟨7, .data⟩, ⟨7, .chain⟩, { on := 9, ground := Ground.textOnly Departure.appendInPlace }, ⟨0, .phase⟩, ⟨1, .phase⟩, ⟨2, .phase⟩, ⟨3, .phase⟩, ⟨4, .phase⟩, ⟨5, .phase⟩, ⟨6, .phase⟩, ⟨7, .phase⟩, { on := 8, ground := Ground.textOnly Departure.appendInPlace }, { on := 9, ground := Ground.textOnly Departure.appendInPlace }], guard := none }) rfl (fun KK hKK => ?_) AllReadyH.nil)
    · go_simp
      have d0A : ((((((w3.setCell ⟨g, n * 6, none⟩ (.int .i64 p.kind)).setCell ⟨g, n * 6 + 1, none⟩ (.string (BA p.text))).setCell ⟨g, n * 6 + 2, none⟩ (.bool p.quote)).setCell ⟨g, n * 6 + 3, none⟩ (.int .i64 p.op)).setCell ⟨g, n * 6 + 4, none⟩ (.bool p.colon)).setCell ⟨g, n * 6 + 5, none⟩ (.slice va vn vc)).cell? ⟨b, 0, none⟩ = some (.slice ad n cap) := Blk.cell (show Blk (T6 w3 g (n * 6) (.int .i64 p.kind) (.string (BA p.text)) (.bool p.quote) (.int .i64 p.op) (.bool p.colon) (.slice va vn vc)) b 72 _ from (unhide HM).blk.grownS (T6_grown ..) (unhide HM).bg) 0 rfl
      have z0A : ((((((w3.setCell ⟨g, n * 6, none⟩ (.int .i64 p.kind)).setCell ⟨g, n * 6 + 1, none⟩ (.string (BA p.text))).setCell ⟨g, n * 6 + 2, none⟩ (.bool p.quote)).setCell ⟨g, n * 6 + 3, none⟩ (.int .i64 p.op)).setCell ⟨g, n * 6 + 4, none⟩ (.bool p.colon)).setCell ⟨g, n * 6 + 5, none⟩ (.slice va vn vc)).frozen? ⟨b, 0, none⟩ = false := Blk.frozen (show Blk (T6 w3 g (n * 6) (.int .i64 p.kind) (.string (BA p.text)) (.bool p.quote) (.int .i64 p.op) (.bool p.colon) (.slice va vn vc)) b 72 _ from (unhide HM).blk.grownS (T6_grown ..) (unhide HM).bg) 0
      refine hKK.out _ _ (by exact show Box (T6 w3 g (n * 6) (.int .i64 p.kind) (.string (BA p.text)) (.bool p.quote) (.int .i64 p.op) (.bool p.colon) (.slice va vn vc)) w.heap.size p (.slice va vn vc) from Blk.grownS (unhide HM).box (T6_grown ..) (unhide HM).qg) (fun hHeld => ?_)
      clear hKK KK
      try simp only [Act.put, List.setIfInBounds_toArray, List.set_cons_zero, List.set_cons_succ]
      refine wpAnyH_ready (rs := [12]) (by kernel_rfl) (by simp) ?_
      refine AllReadyH.cons (o := { dst := none, op := Op.store 24 (Operand.tmp 20) (Operand.tmp 17), type := 0, pos := "read.go:66", after := #[⟨11, .data⟩, ⟨7, .data⟩, ⟨7, .chain⟩, { on := 9, ground := Ground.textOnly Departure.appendInPlace }, ⟨0, .phase⟩, ⟨1, .phase⟩, ⟨2, .phase⟩, ⟨3, .phase⟩, ⟨4, .phase⟩, ⟨5, .phase⟩, ⟨6, .phase⟩, ⟨7, .phase⟩, { on := 8, ground := Ground.textOnly Departure.appendInPlace }, { on := 9, ground := Ground.textOnly Departure.appendInPlace }], guard := none }) rfl (fun KK hKK => ?_) AllReadyH.nil
      go_simp
      refine hKK.out _ _ (by exact show Box ((T6 w3 g (n * 6) (.int .i64 p.kind) (.string (BA p.text)) (.bool p.quote) (.int .i64 p.op) (.bool p.colon) (.slice va vn vc)).setCell ⟨b, 0, none⟩ (.slice (some ⟨g, 0, none⟩) (n + 1) cg)) w.heap.size p (.slice va vn vc) from Blk.grownS (Blk.grownS (unhide HM).box (T6_grown ..) (unhide HM).qg) (setb_grown _ _ _ _) (unhide HM).qb) (fun hHeld => ?_)
      clear hKK KK
      try simp only [Act.put, List.setIfInBounds_toArray, List.set_cons_zero, List.set_cons_succ]
      clear hHeld
      refine wpAnyH_done (by kernel_rfl) ?_ _
      obtain ⟨w5, hw5⟩ : ∃ x, x = (((((((w3.setCell ⟨g, n * 6, none⟩ (.int .i64 p.kind)).setCell ⟨g, n * 6 + 1, none⟩ (.string (BA p.text))).setCell ⟨g, n * 6 + 2, none⟩ (.bool p.quote)).setCell ⟨g, n * 6 + 3, none⟩ (.int .i64 p.op)).setCell ⟨g, n * 6 + 4, none⟩ (.bool p.colon)).setCell ⟨g, n * 6 + 5, none⟩ (.slice va vn vc)).setCell ⟨b, 0, none⟩ (.slice (some ⟨g, 0, none⟩) (n + 1) cg)) := ⟨_, rfl⟩
      have H5 : Hid (LSg w5 b (fun k => X k ∨ k = g) (L2 ++ [(p, .slice va vn vc)]) [] (.slice (some ⟨g, 0, none⟩) (n + 1) cg) (.slice none 0 0) ∧ Box w5 w.heap.size p (.slice va vn vc)) := hide (by rw [hw5]; exact add_finA (unhide HM) (unhide H2) (unhide HN) (unhide HO3) (unhide HSUB) (unhide HIN))
      have HG5 : Hid (GrownS w w5 X ∧ ∀ k, X k ∨ k = g → X k ∨ w.heap.size ≤ k) := hide (by rw [hw5]; exact add_grownA (unhide HM) (unhide H2) (unhide HG2))
      rw [← hw5]
      clear hw5 d0 z0 e0a e1a e2a e3a e4a e5a e0b e1b e2b e3b e4b e5b c0a d0A z0A HM HO3 HBX1
      have f1 : w5.cell? ⟨b, 1, none⟩ = some (.slice none 0 0) := (unhide H5).1.blk.cell 1 rfl
      have q0 : w5.cell? ⟨w.heap.size, 0, none⟩ = some (.int .i64 p.kind) := (unhide H5).2.six.1
      go_wp2_with fail
      refine wp_region_held_drew (S := fun w' => Box w' w.heap.size p (.slice va vn vc)) (by kernel_rfl) (by exact (unhide H5).2) (fun hHeld => ?_)
      refine wpAnyH_take (i := 0) (oi := { dst := some 24, op := Op.move (Operand.tmp 0), type := 91, pos := "read.go:69", after := #[], guard := none }) (v := ?_) rfl (by kernel_rfl) (by kernel_rfl) (by kernel_rfl) (fun _ _ _ h => h) (Or.inl ⟨by rfl, ?_⟩) (by assumption) ?_
      rotate_left
      · intro w hSw; obtain ⟨s0, s1, s2, s3, s4, s5⟩ := Box.six hSw; go_simp; (try with_reducible rfl)
      simp only [Act.put, List.setIfInBounds_toArray, List.set_cons_zero, List.set_cons_succ]
      refine wpAnyH_take (i := 1) (oi := { dst := some 25, op := Op.move (Operand.tmp 0), type := 91, pos := "read.go:69", after := #[], guard := none }) (v := ?_) rfl (by kernel_rfl) (by kernel_rfl) (by kernel_rfl) (fun _ _ _ h => h) (Or.inl ⟨by rfl, ?_⟩) (by assumption) ?_
      rotate_left
      · intro w hSw; obtain ⟨s0, s1, s2, s3, s4, s5⟩ := Box.six hSw; go_simp; (try with_reducible rfl)
      simp only [Act.put, List.setIfInBounds_toArray, List.set_cons_zero, List.set_cons_succ]
      refine wpAnyH_take (i := 2) (oi := { dst := some 26, op := Op.nilCheck (Operand.tmp 25), type := 0, pos := "read.go:69", after := #[⟨1, .data⟩], guard := none }) (v := ?_) rfl (by kernel_rfl) (by kernel_rfl) (by kernel_rfl) (fun _ _ _ h => h) (Or.inl ⟨by rfl, ?_⟩) (by assumption) ?_
      rotate_left
      · intro w hSw; obtain ⟨s0, s1, s2, s3, s4, s5⟩ := Box.six hSw; go_simp; (try with_reducible rfl)
      simp only [Act.put, List.setIfInBounds_toArray, List.set_cons_zero, List.set_cons_succ]
      refine wpAnyH_take (i := 3) (oi := { dst := some 27, op := Op.fieldAddr 72 (Operand.tmp 26) 1, type := 0, pos := "read.go:69", after := #[⟨2, .data⟩], guard := none }) (v := ?_) rfl (by kernel_rfl) (by kernel_rfl) (by kernel_rfl) (fun _ _ _ h => h) (Or.inl ⟨by rfl, ?_⟩) (by assumption) ?_
      rotate_left
      · intro w hSw; obtain ⟨s0, s1, s2, s3, s4, s5⟩ := Box.six hSw; go_simp; (try with_reducible rfl)
      simp only [Act.put, List.setIfInBounds_toArray, List.set_cons_zero, List.set_cons_succ]
      refine wpAnyH_take (i := 5) (oi := { dst := some 29, op := Op.fieldAddr 37 (Operand.tmp 3) 1, type := 0, pos := "read.go:69", after := #[], guard := none }) (v := ?_) rfl (by kernel_rfl) (by kernel_rfl) (by kernel_rfl) (fun _ _ _ h => h) (Or.inl ⟨by rfl, ?_⟩) (by assumption) ?_
      rotate_left
      · intro w hSw; obtain ⟨s0, s1, s2, s3, s4, s5⟩ := Box.six hSw; go_simp; (try with_reducible rfl)
      simp only [Act.put, List.setIfInBounds_toArray, List.set_cons_zero, List.set_cons_succ]
      refine wpAnyH_take (i := 6) (oi := { dst := some 30, op := Op.load 9 (Operand.tmp 29), type := 9, pos := "read.go:69", after := #[⟨5, .data⟩], guard := none }) (v := ?_) rfl (by kernel_rfl) (by kernel_rfl) (by kernel_rfl) (fun _ _ _ h => h) (Or.inl ⟨by rfl, ?_⟩) (by assumption) ?_
      rotate_left
      · intro w hSw; obtain ⟨s0, s1, s2, s3, s4, s5⟩ := Box.six hSw; go_simp; (try with_reducible rfl)
      simp only [Act.put, List.setIfInBounds_toArray, List.set_cons_zero, List.set_cons_succ]
      refine wpAnyH_ready (rs := [4]) (by kernel_rfl) (by simp) ?_
      refine AllReadyH.cons (o := { dst := some 28, op := Op.load 49 (Operand.tmp 27), type := 49, pos := "read.go:69", after := #[⟨3, .data⟩], guard := none }) rfl (fun KK hKK => ?_) AllReadyH.nil
      go_simp
      refine hKK.out _ _ (by exact (unhide H5).2) (fun hHeld => ?_)
      clear hKK KK
      try simp only [Act.put, List.setIfInBounds_toArray, List.set_cons_zero, List.set_cons_succ]
      refine wpAnyH_ready (rs := [7]) (by kernel_rfl) (by simp) ?_
      refine AllReadyH.cons (o := { dst := some 31, op := Op.call { callee := Callee.builtin Builtin.append, args := #[Operand.tmp 28, Operand.tmp 30], argTypes := #[49, 9] }, type := 49, pos := "read.go:69", after := #[⟨4, .data⟩, ⟨6, .data⟩], guard := none }) rfl (fun KK hKK => ?_) AllReadyH.nil
      refine step_append_str (by rfl) _ _ _ _ (by rfl) (b + 1) 5 i0 und_bytes und_str hi hz0 hz1 hz2 (.slice none 0 0) (List.length []) (Lib.byteCells []) (by simp [Act.eval]) (own_drew (unhide H5).1.own) (BA p.text) (by simp [Act.eval]) (by have h1 := unhide HLT; unfold maxLen; simp at h1 ⊢; omega) (by have h1 := unhide HLT; simp at h1 ⊢; omega) (by have h1 := (unhide H5).1.blk.lt; simp; omega) ?_
      intro v6 w6 hown6 hgrow6 hat6
      obtain ⟨v6a, v6n, v6c, hv6⟩ := slice_own hown6
      subst hv6
      have H7 := hide ((unhide H5).1.setB (w1 := w6) ((grownS_of_below (below_drew _ 1)).trans (GrownS.of hgrow6 (fun _ e => e))) (own_push (l := []) (c := p.text) (by simp) rfl hown6) hat6)
      have H6X := hide hat6
      have f6 : w6.cell? ⟨b, 1, none⟩ = some (.slice none 0 0) := (Blk.kept (blk_drew (unhide H5).1.blk) hgrow6 (own_type (own_drew (unhide H5).1.own) (blk_drew (unhide H5).1.blk) (by decide))).cell 1 rfl
      have y6 : w6.frozen? ⟨b, 1, none⟩ = false := (Blk.kept (blk_drew (unhide H5).1.blk) hgrow6 (own_type (own_drew (unhide H5).1.own) (blk_drew (unhide H5).1.blk) (by decide))).frozen 1
      have HB6 : Hid (Box w6 w.heap.size p (.slice va vn vc)) := hide (Blk.kept (blk_drew (unhide H5).2) hgrow6 (own_type (own_drew (unhide H5).1.own) (blk_drew (unhide H5).2) (by decide)))
      clear hown6 hgrow6 hat6
      refine hKK.out _ _ (by exact unhide HB6) (fun hHeld => ?_)
      clear hKK KK
      try simp only [Act.put, List.setIfInBounds_toArray, List.set_cons_zero, List.set_cons_succ]
      refine wpAnyH_take (i := 8) (oi := { dst := some 32, op := Op.nilCheck (Operand.tmp 24), type := 0, pos := "read.go:69", after := #[⟨0, .data⟩, ⟨0, .phase⟩, ⟨1, .phase⟩, ⟨2, .phase⟩, ⟨3, .phase⟩, ⟨4, .phase⟩, ⟨5, .phase⟩, ⟨6, .phase⟩, ⟨7, .phase⟩], guard := none }) (v := ?_) rfl (by kernel_rfl) (by kernel_rfl) (by kernel_rfl) (fun _ _ _ h => h) (Or.inl ⟨by rfl, ?_⟩) (by assumption) ?_
      rotate_left
      · intro w hSw; obtain ⟨s0, s1, s2, s3, s4, s5⟩ := Box.six hSw; go_simp; (try with_reducible rfl)
      simp only [Act.put, List.setIfInBounds_toArray, List.set_cons_zero, List.set_cons_succ]
      refine wpAnyH_take (i := 9) (oi := { dst := some 33, op := Op.fieldAddr 72 (Operand.tmp 32) 1, type := 0, pos := "read.go:69", after := #[⟨8, .data⟩, ⟨0, .phase⟩, ⟨1, .phase⟩, ⟨2, .phase⟩, ⟨3, .phase⟩, ⟨4, .phase⟩, ⟨5, .phase⟩, ⟨6, .phase⟩, ⟨7, .phase⟩], guard := none }) (v := ?_) rfl (by kernel_rfl) (by kernel_rfl) (by kernel_rfl) (fun _ _ _ h => h) (Or.inl ⟨by rfl, ?_⟩) (by assumption) ?_
      rotate_left
      · intro w hSw; obtain ⟨s0, s1, s2, s3, s4, s5⟩ := Box.six hSw; go_simp; (try with_reducible rfl)
      simp only [Act.put, List.setIfInBounds_toArray, List.set_cons_zero, List.set_cons_succ]
      refine wpAnyH_ready (rs := [10]) (by kernel_rfl) (by simp) ?_
      refine AllReadyH.cons (o := { dst := none, op := Op.store 49 (Operand.tmp 33) (Operand.tmp 31), type := 0, pos := "read.go:69", after := #[⟨9, .data⟩, ⟨7, .data⟩, ⟨7, .chain⟩, ⟨0, .phase⟩, ⟨1, .phase⟩, ⟨2, .phase⟩, ⟨3, .phase⟩, ⟨4, .phase⟩, ⟨5, .phase⟩, ⟨6, .phase⟩, ⟨7, .phase⟩], guard := none }) rfl (fun KK hKK => ?_) AllReadyH.nil
      go_simp
      refine hKK.out _ _ (by exact Blk.grownS (unhide HB6) (setb_grown _ _ _ _) (unhide HQB)) (fun hHeld => ?_)
      clear hKK KK
      try simp only [Act.put, List.setIfInBounds_toArray, List.set_cons_zero, List.set_cons_succ]
      clear hHeld
      refine wpAnyH_done (by kernel_rfl) ?_ _
      go_wp2
      refine bodyPost_end (res0 rfl _ _) rfl ?_
      exact ⟨rfl, end_lit (unhide HPS) (unhide HGO) (unhide HKK) (by rw [← unhide HPS2]; exact (unhide H7).1) (unhide HG5).1 (unhide HG5).2 (unhide H7).2 (unhide H6X)⟩
    · go_simp
      have HOB : Hid (World.ownsRow (w3.setCell ⟨b, 0, none⟩ (.slice (some ⟨g, 0, none⟩) (n + 1) cg)) (b + 1) 37 6 (.slice (some ⟨g, 0, none⟩) (n + 1) cg) (n + 1) (flatP L2 ++ [.int .i64 0, .string ⟨#[]⟩, .bool false, .int .i64 0, .bool false, .slice none 0 0])) := hide (own_grownS (unhide HO3) (setb_grown _ _ _ _) (fun k hk e => (unhide HM).bg ((ownb hk).trans e).symm))
      have t0 := own_cell (j := n * 6) (unhide HOB) (zero_at (unhide HN) 0)
      have t1 := own_cell (j := n * 6 + 1) (unhide HOB) (zero_at (unhide HN) 1)
      have t2 := own_cell (j := n * 6 + 2) (unhide HOB) (zero_at (unhide HN) 2)
      have t3 := own_cell (j := n * 6 + 3) (unhide HOB) (zero_at (unhide HN) 3)
      have t4 := own_cell (j := n * 6 + 4) (unhide HOB) (zero_at (unhide HN) 4)
      have t5 := own_cell (j := n * 6 + 5) (unhide HOB) (zero_at (unhide HN) 5)
      obtain ⟨t0a, t0b⟩ := t0
      obtain ⟨t1a, t1b⟩ := t1
      obtain ⟨t2a, t2b⟩ := t2
      obtain ⟨t3a, t3b⟩ := t3
      obtain ⟨t4a, t4b⟩ := t4
      obtain ⟨t5a, t5b⟩ := t5
      refine hKK.out _ _ (by exact Blk.grownS (unhide HM).box (setb_grown _ _ _ _) (unhide HM).qb) (fun hHeld => ?_)
      clear hKK KK
      try simp only [Act.put, List.setIfInBounds_toArray, List.set_cons_zero, List.set_cons_succ]
      refine wpAnyH_ready (rs := [9]) (by kernel_rfl) (by simp) ?_
      refine AllReadyH.cons (o := { dst := none, op := Op.store 37 (Operand.tmp 18) (Operand.tmp 14), type := 0, pos := "read.go:66", after := #[⟨8, .data⟩, ⟨4, .data⟩, ⟨7, .chain⟩, ⟨0, .phase⟩, ⟨1, .phase⟩, ⟨2, .phase⟩, ⟨3, .phase⟩, ⟨4, .phase⟩, ⟨5, .phase⟩, ⟨6, .phase⟩, ⟨7, .phase⟩, { on := 12, ground := Ground.gcOnly Departure.appendInPlace }], guard := none }) rfl (fun KK hKK => ?_) AllReadyH.nil
      go_simp
      refine hKK.out _ _ (by exact show Box (T6 (w3.setCell ⟨b, 0, none⟩ (.slice (some ⟨g, 0, none⟩) (n + 1) cg)) g (n * 6) (.int .i64 p.kind) (.string (BA p.text)) (.bool p.quote) (.int .i64 p.op) (.bool p.colon) (.slice va vn vc)) w.heap.size p (.slice va vn vc) from Blk.grownS (Blk.grownS (unhide HM).box (setb_grown _ _ _ _) (unhide HM).qb) (T6_grown ..) (unhide HM).qg) (fun hHeld => ?_)
      clear hKK KK
      try simp only [Act.put, List.setIfInBounds_toArray, List.set_cons_zero, List.set_cons_succ]
      clear hHeld
      refine wpAnyH_done (by kernel_rfl) ?_ _
      obtain ⟨w5, hw5⟩ : ∃ x, x = (((((((w3.setCell ⟨b, 0, none⟩ (.slice (some ⟨g, 0, none⟩) (n + 1) cg)).setCell ⟨g, n * 6, none⟩ (.int .i64 p.kind)).setCell ⟨g, n * 6 + 1, none⟩ (.string (BA p.text))).setCell ⟨g, n * 6 + 2, none⟩ (.bool p.quote)).setCell ⟨g, n * 6 + 3, none⟩ (.int .i64 p.op)).setCell ⟨g, n * 6 + 4, none⟩ (.bool p.colon)).setCell ⟨g, n * 6 + 5, none⟩ (.slice va vn vc)) := ⟨_, rfl⟩
      have H5 : Hid (LSg w5 b (fun k => X k ∨ k = g) (L2 ++ [(p, .slice va vn vc)]) [] (.slice (some ⟨g, 0, none⟩) (n + 1) cg) (.slice none 0 0) ∧ Box w5 w.heap.size p (.slice va vn vc)) := hide (by rw [hw5]; exact add_finB (unhide HM) (unhide H2) (unhide HN) (unhide HO3) (unhide HSUB) (unhide HIN))
      have HG5 : Hid (GrownS w w5 X ∧ ∀ k, X k ∨ k = g → X k ∨ w.heap.size ≤ k) := hide (by rw [hw5]; exact add_grownB (unhide HM) (unhide H2) (unhide HG2))
      rw [← hw5]
      clear hw5 d0 z0 e0a e1a e2a e3a e4a e5a e0b e1b e2b e3b e4b e5b c0a t0a t1a t2a t3a t4a t5a t0b t1b t2b t3b t4b t5b HM HO3 HBX1 HOB
      have f1 : w5.cell? ⟨b, 1, none⟩ = some (.slice none 0 0) := (unhide H5).1.blk.cell 1 rfl
      have q0 : w5.cell? ⟨w.heap.size, 0, none⟩ = some (.int .i64 p.kind) := (unhide H5).2.six.1
      go_wp2_with fail
      refine wp_region_held_drew (S := fun w' => Box w' w.heap.size p (.slice va vn vc)) (by kernel_rfl) (by exact (unhide H5).2) (fun hHeld => ?_)
      refine wpAnyH_take (i := 0) (oi := { dst := some 24, op := Op.move (Operand.tmp 0), type := 91, pos := "read.go:69", after := #[], guard := none }) (v := ?_) rfl (by kernel_rfl) (by kernel_rfl) (by kernel_rfl) (fun _ _ _ h => h) (Or.inl ⟨by rfl, ?_⟩) (by assumption) ?_
      rotate_left
      · intro w hSw; obtain ⟨s0, s1, s2, s3, s4, s5⟩ := Box.six hSw; go_simp; (try with_reducible rfl)
      simp only [Act.put, List.setIfInBounds_toArray, List.set_cons_zero, List.set_cons_succ]
      refine wpAnyH_take (i := 1) (oi := { dst := some 25, op := Op.move (Operand.tmp 0), type := 91, pos := "read.go:69", after := #[], guard := none }) (v := ?_) rfl (by kernel_rfl) (by kernel_rfl) (by kernel_rfl) (fun _ _ _ h => h) (Or.inl ⟨by rfl, ?_⟩) (by assumption) ?_
      rotate_left
      · intro w hSw; obtain ⟨s0, s1, s2, s3, s4, s5⟩ := Box.six hSw; go_simp; (try with_reducible rfl)
      simp only [Act.put, List.setIfInBounds_toArray, List.set_cons_zero, List.set_cons_succ]
      refine wpAnyH_take (i := 2) (oi := { dst := some 26, op := Op.nilCheck (Operand.tmp 25), type := 0, pos := "read.go:69", after := #[⟨1, .data⟩], guard := none }) (v := ?_) rfl (by kernel_rfl) (by kernel_rfl) (by kernel_rfl) (fun _ _ _ h => h) (Or.inl ⟨by rfl, ?_⟩) (by assumption) ?_
      rotate_left
      · intro w hSw; obtain ⟨s0, s1, s2, s3, s4, s5⟩ := Box.six hSw; go_simp; (try with_reducible rfl)
      simp only [Act.put, List.setIfInBounds_toArray, List.set_cons_zero, List.set_cons_succ]
      refine wpAnyH_take (i := 3) (oi := { dst := some 27, op := Op.fieldAddr 72 (Operand.tmp 26) 1, type := 0, pos := "read.go:69", after := #[⟨2, .data⟩], guard := none }) (v := ?_) rfl (by kernel_rfl) (by kernel_rfl) (by kernel_rfl) (fun _ _ _ h => h) (Or.inl ⟨by rfl, ?_⟩) (by assumption) ?_
      rotate_left
      · intro w hSw; obtain ⟨s0, s1, s2, s3, s4, s5⟩ := Box.six hSw; go_simp; (try with_reducible rfl)
      simp only [Act.put, List.setIfInBounds_toArray, List.set_cons_zero, List.set_cons_succ]
      refine wpAnyH_take (i := 5) (oi := { dst := some 29, op := Op.fieldAddr 37 (Operand.tmp 3) 1, type := 0, pos := "read.go:69", after := #[], guard := none }) (v := ?_) rfl (by kernel_rfl) (by kernel_rfl) (by kernel_rfl) (fun _ _ _ h => h) (Or.inl ⟨by rfl, ?_⟩) (by assumption) ?_
      rotate_left
      · intro w hSw; obtain ⟨s0, s1, s2, s3, s4, s5⟩ := Box.six hSw; go_simp; (try with_reducible rfl)
      simp only [Act.put, List.setIfInBounds_toArray, List.set_cons_zero, List.set_cons_succ]
      refine wpAnyH_take (i := 6) (oi := { dst := some 30, op := Op.load 9 (Operand.tmp 29), type := 9, pos := "read.go:69", after := #[⟨5, .data⟩], guard := none }) (v := ?_) rfl (by kernel_rfl) (by kernel_rfl) (by kernel_rfl) (fun _ _ _ h => h) (Or.inl ⟨by rfl, ?_⟩) (by assumption) ?_
      rotate_left
      · intro w hSw; obtain ⟨s0, s1, s2, s3, s4, s5⟩ := Box.six hSw; go_simp; (try with_reducible rfl)
      simp only [Act.put, List.setIfInBounds_toArray, List.set_cons_zero, List.set_cons_succ]
      refine wpAnyH_ready (rs := [4]) (by kernel_rfl) (by simp) ?_
      refine AllReadyH.cons (o := { dst := some 28, op := Op.load 49 (Operand.tmp 27), type := 49, pos := "read.go:69", after := #[⟨3, .data⟩], guard := none }) rfl (fun KK hKK => ?_) AllReadyH.nil
      go_simp
      refine hKK.out _ _ (by exact (unhide H5).2) (fun hHeld => ?_)
      clear hKK KK
      try simp only [Act.put, List.setIfInBounds_toArray, List.set_cons_zero, List.set_cons_succ]
      refine wpAnyH_ready (rs := [7]) (by kernel_rfl) (by simp) ?_
      refine AllReadyH.cons (o := { dst := some 31, op := Op.call { callee := Callee.builtin Builtin.append, args := #[Operand.tmp 28, Operand.tmp 30], argTypes := #[49, 9] }, type := 49, pos := "read.go:69", after := #[⟨4, .data⟩, ⟨6, .data⟩], guard := none }) rfl (fun KK hKK => ?_) AllReadyH.nil
      refine step_append_str (by rfl) _ _ _ _ (by rfl) (b + 1) 5 i0 und_bytes und_str hi hz0 hz1 hz2 (.slice none 0 0) (List.length []) (Lib.byteCells []) (by simp [Act.eval]) (own_drew (unhide H5).1.own) (BA p.text) (by simp [Act.eval]) (by have h1 := unhide HLT; unfold maxLen; simp at h1 ⊢; omega) (by have h1 := unhide HLT; simp at h1 ⊢; omega) (by have h1 := (unhide H5).1.blk.lt; simp; omega) ?_
      intro v6 w6 hown6 hgrow6 hat6
      obtain ⟨v6a, v6n, v6c, hv6⟩ := slice_own hown6
      subst hv6
      have H7 := hide ((unhide H5).1.setB (w1 := w6) ((grownS_of_below (below_drew _ 1)).trans (GrownS.of hgrow6 (fun _ e => e))) (own_push (l := []) (c := p.text) (by simp) rfl hown6) hat6)
      have H6X := hide hat6
      have f6 : w6.cell? ⟨b, 1, none⟩ = some (.slice none 0 0) := (Blk.kept (blk_drew (unhide H5).1.blk) hgrow6 (own_type (own_drew (unhide H5).1.own) (blk_drew (unhide H5).1.blk) (by decide))).cell 1 rfl
      have y6 : w6.frozen? ⟨b, 1, none⟩ = false := (Blk.kept (blk_drew (unhide H5).1.blk) hgrow6 (own_type (own_drew (unhide H5).1.own) (blk_drew (unhide H5).1.blk) (by decide))).frozen 1
      have HB6 : Hid (Box w6 w.heap.size p (.slice va vn vc)) := hide (Blk.kept (blk_drew (unhide H5).2) hgrow6 (own_type (own_drew (unhide H5).1.own) (blk_drew (unhide H5).2) (by decide)))
      clear hown6 hgrow6 hat6
      refine hKK.out _ _ (by exact unhide HB6) (fun hHeld => ?_)
      clear hKK KK
      try simp only [Act.put, List.setIfInBounds_toArray, List.set_cons_zero, List.set_cons_succ]
      refine wpAnyH_take (i := 8) (oi := { dst := some 32, op := Op.nilCheck (Operand.tmp 24), type := 0, pos := "read.go:69", after := #[⟨0, .data⟩, ⟨0, .phase⟩, ⟨1, .phase⟩, ⟨2, .phase⟩, ⟨3, .phase⟩, ⟨4, .phase⟩, ⟨5, .phase⟩, ⟨6, .phase⟩, ⟨7, .phase⟩], guard := none }) (v := ?_) rfl (by kernel_rfl) (by kernel_rfl) (by kernel_rfl) (fun _ _ _ h => h) (Or.inl ⟨by rfl, ?_⟩) (by assumption) ?_
      rotate_left
      · intro w hSw; obtain ⟨s0, s1, s2, s3, s4, s5⟩ := Box.six hSw; go_simp; (try with_reducible rfl)
      simp only [Act.put, List.setIfInBounds_toArray, List.set_cons_zero, List.set_cons_succ]
      refine wpAnyH_take (i := 9) (oi := { dst := some 33, op := Op.fieldAddr 72 (Operand.tmp 32) 1, type := 0, pos := "read.go:69", after := #[⟨8, .data⟩, ⟨0, .phase⟩, ⟨1, .phase⟩, ⟨2, .phase⟩, ⟨3, .phase⟩, ⟨4, .phase⟩, ⟨5, .phase⟩, ⟨6, .phase⟩, ⟨7, .phase⟩], guard := none }) (v := ?_) rfl (by kernel_rfl) (by kernel_rfl) (by kernel_rfl) (fun _ _ _ h => h) (Or.inl ⟨by rfl, ?_⟩) (by assumption) ?_
      rotate_left
      · intro w hSw; obtain ⟨s0, s1, s2, s3, s4, s5⟩ := Box.six hSw; go_simp; (try with_reducible rfl)
      simp only [Act.put, List.setIfInBounds_toArray, List.set_cons_zero, List.set_cons_succ]
      refine wpAnyH_ready (rs := [10]) (by kernel_rfl) (by simp) ?_
      refine AllReadyH.cons (o := { dst := none, op := Op.store 49 (Operand.tmp 33) (Operand.tmp 31), type := 0, pos := "read.go:69", after := #[⟨9, .data⟩, ⟨7, .data⟩, ⟨7, .chain⟩, ⟨0, .phase⟩, ⟨1, .phase⟩, ⟨2, .phase⟩, ⟨3, .phase⟩, ⟨4, .phase⟩, ⟨5, .phase⟩, ⟨6, .phase⟩, ⟨7, .phase⟩], guard := none }) rfl (fun KK hKK => ?_) AllReadyH.nil
      go_simp
      refine hKK.out _ _ (by exact Blk.grownS (unhide HB6) (setb_grown _ _ _ _) (unhide HQB)) (fun hHeld => ?_)
      clear hKK KK
      try simp only [Act.put, List.setIfInBounds_toArray, List.set_cons_zero, List.set_cons_succ]
      clear hHeld
      refine wpAnyH_done (by kernel_rfl) ?_ _
      go_wp2
      refine bodyPost_end (res0 rfl _ _) rfl ?_
      exact ⟨rfl, end_lit (unhide HPS) (unhide HGO) (unhide HKK) (by rw [← unhide HPS2]; exact (unhide H7).1) (unhide HG5).1 (unhide HG5).2 (unhide H7).2 (unhide H6X)⟩
theorem ladd_any (w : World) (b : Nat) (X A : Nat → Prop) (ps : List Prt) (x : Value) (p : Prt) (h : LSt w b X ps) (hx : PV w A x p) (hA : ∀ k, A k → InW b X w k) (hl : ps.length ≤ 100000) (ht : tlen ps + p.text.length ≤ 1000000) :
    Calls Tryz.prog 41 #[.pointer (some ⟨b, 0, none⟩), x] w fun e w' => e = .returned (.tuple #[]) ∧ ∃ X', LSt w' b X' (addP ps p) ∧ GrownS w w' X ∧ ∀ k, X' k → X k ∨ w.heap.size ≤ k := by
  obtain ⟨L, bs, pv, bv, h1, h2, h3⟩ := h
  rcases Bool.eq_false_or_eq_true (goesB L p) with hg | hg
  · exact ladd_on w b X A L bs ps pv bv x p h1 h2 h3 hx hA hl ht hg
  · rcases Bool.eq_false_or_eq_true (p.kind == 1) with hk | hk
    · exact ladd_lit w b X A L bs ps pv bv x p h1 h2 h3 hx hA hl ht hg hk
    · exact ladd_oth w b X A L bs ps pv bv x p h1 h2 h3 hx hA hl ht hg hk
end Go.Proofs.YtnamfjbfcbamjaaGreatDoor

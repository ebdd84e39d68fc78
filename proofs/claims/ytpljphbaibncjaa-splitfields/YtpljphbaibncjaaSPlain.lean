/-
  One; the law's Plain; the document's Same, of two that are the same.
-/
import Derived.Test.YtpljphbaibncjaaSAwake
import Derived.Deep.RegionHeld3
import Derived.BigQuiet
import Derived.Laws.ResultCell
namespace Go.Proofs.Ytpljphbaibncjaa
open Go.RowKit

theorem und_rfields : Try.prog.underlying 25 = some (.slice 38) := by kernel_rfl
theorem info_rfield : (Try.prog.info? 38).map (fun i => (i.zero, i.size, i.bytes)) = some (some (.agg #[.string ⟨#[]⟩, .slice none 0 0]), 2, 40) := by kernel_rfl
theorem two_drew {w : World} {x y : Value} {t : TypeId} : ∀ j u, [x, y][j]? = some u → ((w.alloc (.cells #[x, y] t)).drew).cell? ((⟨w.heap.size, 0, none⟩ : Addr).add j) = some u := fun j u hj => two_cells (w := w) (t := t) j u hj
theorem plain_snoc {Lk : List (Fd × Value)} {ts : List Fd} {k : Nat} {t : Fd} {v : Value} (h : Lk.map Prod.fst = ts.take k) (ht : ts[k]? = some t) : (Lk ++ [(t, v)]).map Prod.fst = ts.take (k + 1) := by
  rw [List.map_append, h, List.take_add_one, ht]
  rfl
theorem QRow.slice {w : World} {v : Value} {l : List Bool} (h : QRow w v l) : ∃ a n c, v = .slice a n c := by
  obtain ⟨ad, cap, rfl, _⟩ := h
  exact ⟨_, _, _, rfl⟩
set_option maxRecDepth 100000 in
set_option maxHeartbeats 4000000 in
theorem plain_any (v : Value) (ts : List Fd) (w : World) (h : FRow w v ts) (hl : ts.length ≤ 1000000) : Calls Try.prog 10 #[v] w fun e w' => ∃ v', e = .returned v' ∧ Below w.heap.size w w' ∧ FRow w' v' ts := by
  obtain ⟨iT, hiT, hzT0, hzT1, hzT2⟩ := info_of info_rfield
  obtain ⟨ad, cap, rfl, hsh⟩ := h
  obtain ⟨n, hn⟩ : ∃ n, n = ts.length := ⟨_, rfl⟩
  rw [← hn]
  have hnl : n ≤ 1000000 := by omega
  have HSH := hide hsh
  have HN := hide hn
  clear hsh hn hl
  go_enter Try.func10, Try.ntmps10
  go_wp2_with fail
  go_loopw [3, 4] (fun v' i wr => ∃ k : Nat, i = .int .i64 (k : Int) ∧ k ≤ n ∧ Hid (Below w.heap.size w wr ∧ ∃ Lk : List (Fd × Value), Lk.map Prod.fst = ts.take k ∧ wr.ownsRow w.heap.size 38 2 v' k (flatF Lk) ∧ ∀ x ∈ Lk, QRow w x.2 (fqs x.1))) (fun _ i _ => n - (intOf i).toNat)
  case atStart => exact ⟨0, rfl, Nat.zero_le _, hide ⟨Below.refl _ _, [], rfl, World.ownsRow_nil _ _ _ _, fun x hx => by simp at hx⟩⟩
  case round =>
    obtain ⟨k, rfl, hk, HH⟩ := hrel
    obtain ⟨hB0, Lk, hLk, hO, hQk⟩ := unhide HH
    have HB := hide hB0
    have HLk := hide hLk
    have HO := hide hO
    have HQk := hide hQk
    clear HH hB0 hLk hO hQk
    by_cases hlt : k < n
    · have hkt : k < ts.length := by have := unhide HN; omega
      obtain ⟨t, ht⟩ : ∃ t, ts[k]? = some t := ⟨_, List.getElem?_eq_getElem hkt⟩
      obtain ⟨g, q, rfl, hg, hc0, hc1, hq⟩ := unhide HSH k t ht
      obtain ⟨qa, qn, qc, rfl⟩ := hq.slice
      have HQ := hide hq
      have hw1 : ∀ j, wr.cell? ⟨g, j, none⟩ = w.cell? ⟨g, j, none⟩ := fun j => World.cell?_of_block ((unhide HB).block g hg)
      have HZ : Hid (wr.cell? ⟨g, k * 2, none⟩ = some (.string (BA (ftx t))) ∧ wr.cell? ⟨g, k * 2 + 1, none⟩ = some (.slice qa qn qc)) := hide ⟨(hw1 _).trans hc0, (hw1 _).trans hc1⟩
      have hlt1 : (k : Int) < (n : Int) := by omega
      have hk0 : (0 : Int) ≤ (k : Int) := by omega
      have HT := hide ht
      have HG := hide hg
      clear hkt ht hg hc0 hc1 hw1 hq
      go_wp2_with fail
      refine wp_region_held_drew (S := fun w' => w'.cell? ⟨g, k * 2, none⟩ = some (.string (BA (ftx t))) ∧ w'.cell? ⟨g, k * 2 + 1, none⟩ = some (.slice qa qn qc)) (by kernel_rfl) (by exact unhide HZ) (fun hHeld => ?_)
      refine wpAnyH_take (i := 0) (oi := { dst := some 11, op := Op.move (Operand.tmp 3), type := 25, pos := "law.go:13", after := #[], guard := none }) (v := ?_) rfl (by kernel_rfl) (by kernel_rfl) (by kernel_rfl) (fun _ _ _ h => h) (Or.inl ⟨by rfl, ?_⟩) (by assumption) ?_
      rotate_left
      · intro w hSw; obtain ⟨s0, s1⟩ := hSw; go_simp; (try with_reducible rfl)
      simp only [Act.put, List.setIfInBounds_toArray, List.set_cons_zero, List.set_cons_succ]
      refine wpAnyH_take (i := 1) (oi := { dst := some 12, op := Op.move (Operand.tmp 0), type := 27, pos := "law.go:13", after := #[], guard := none }) (v := ?_) rfl (by kernel_rfl) (by kernel_rfl) (by kernel_rfl) (fun _ _ _ h => h) (Or.inl ⟨by rfl, ?_⟩) (by assumption) ?_
      rotate_left
      · intro w hSw; obtain ⟨s0, s1⟩ := hSw; go_simp; (try with_reducible rfl)
      simp only [Act.put, List.setIfInBounds_toArray, List.set_cons_zero, List.set_cons_succ]
      refine wpAnyH_take (i := 2) (oi := { dst := some 13, op := Op.move (Operand.tmp 4), type := 3, pos := "law.go:13", after := #[], guard := none }) (v := ?_) rfl (by kernel_rfl) (by kernel_rfl) (by kernel_rfl) (fun _ _ _ h => h) (Or.inl ⟨by rfl, ?_⟩) (by assumption) ?_
      rotate_left
      · intro w hSw; obtain ⟨s0, s1⟩ := hSw; go_simp; (try with_reducible rfl)
      simp only [Act.put, List.setIfInBounds_toArray, List.set_cons_zero, List.set_cons_succ]
      refine wpAnyH_take (i := 3) (oi := { dst := some 14, op := Op.indexAddr 27 (Operand.tmp 12) (Operand.tmp 13), type := 0, pos := "law.go:13", after := #[{ on := 1, ground := Ground.data }, { on := 2, ground := Ground.data }], guard := none }) (v := ?_) rfl (by kernel_rfl) (by kernel_rfl) (by kernel_rfl) (fun _ _ _ h => h) (Or.inl ⟨by rfl, ?_⟩) (by assumption) ?_
      rotate_left
      · intro w hSw; obtain ⟨s0, s1⟩ := hSw; go_simp; (try with_reducible rfl)
      simp only [Act.put, List.setIfInBounds_toArray, List.set_cons_zero, List.set_cons_succ]
      refine wpAnyH_take (i := 4) (oi := { dst := some 15, op := Op.fieldAddr 34 (Operand.tmp 14) 0, type := 0, pos := "law.go:13", after := #[{ on := 3, ground := Ground.data }], guard := none }) (v := ?_) rfl (by kernel_rfl) (by kernel_rfl) (by kernel_rfl) (fun _ _ _ h => h) (Or.inl ⟨by rfl, ?_⟩) (by assumption) ?_
      rotate_left
      · intro w hSw; obtain ⟨s0, s1⟩ := hSw; go_simp; (try with_reducible rfl)
      simp only [Act.put, List.setIfInBounds_toArray, List.set_cons_zero, List.set_cons_succ]
      refine wpAnyH_take (i := 5) (oi := { dst := some 16, op := Op.load 9 (Operand.tmp 15), type := 9, pos := "law.go:13", after := #[{ on := 4, ground := Ground.data }], guard := none }) (v := ?_) rfl (by kernel_rfl) (by kernel_rfl) (by kernel_rfl) (fun _ _ _ h => h) (Or.inl ⟨by rfl, ?_⟩) (by assumption) ?_
      rotate_left
      · intro w hSw; obtain ⟨s0, s1⟩ := hSw; go_simp; (try with_reducible rfl)
      simp only [Act.put, List.setIfInBounds_toArray, List.set_cons_zero, List.set_cons_succ]
      refine wpAnyH_take (i := 6) (oi := { dst := some 17, op := Op.move (Operand.tmp 0), type := 27, pos := "law.go:13", after := #[], guard := none }) (v := ?_) rfl (by kernel_rfl) (by kernel_rfl) (by kernel_rfl) (fun _ _ _ h => h) (Or.inl ⟨by rfl, ?_⟩) (by assumption) ?_
      rotate_left
      · intro w hSw; obtain ⟨s0, s1⟩ := hSw; go_simp; (try with_reducible rfl)
      simp only [Act.put, List.setIfInBounds_toArray, List.set_cons_zero, List.set_cons_succ]
      refine wpAnyH_take (i := 7) (oi := { dst := some 18, op := Op.move (Operand.tmp 4), type := 3, pos := "law.go:13", after := #[], guard := none }) (v := ?_) rfl (by kernel_rfl) (by kernel_rfl) (by kernel_rfl) (fun _ _ _ h => h) (Or.inl ⟨by rfl, ?_⟩) (by assumption) ?_
      rotate_left
      · intro w hSw; obtain ⟨s0, s1⟩ := hSw; go_simp; (try with_reducible rfl)
      simp only [Act.put, List.setIfInBounds_toArray, List.set_cons_zero, List.set_cons_succ]
      refine wpAnyH_take (i := 8) (oi := { dst := some 19, op := Op.indexAddr 27 (Operand.tmp 17) (Operand.tmp 18), type := 0, pos := "law.go:13", after := #[{ on := 6, ground := Ground.data }, { on := 7, ground := Ground.data }], guard := none }) (v := ?_) rfl (by kernel_rfl) (by kernel_rfl) (by kernel_rfl) (fun _ _ _ h => h) (Or.inl ⟨by rfl, ?_⟩) (by assumption) ?_
      rotate_left
      · intro w hSw; obtain ⟨s0, s1⟩ := hSw; go_simp; (try with_reducible rfl)
      simp only [Act.put, List.setIfInBounds_toArray, List.set_cons_zero, List.set_cons_succ]
      refine wpAnyH_take (i := 9) (oi := { dst := some 20, op := Op.fieldAddr 34 (Operand.tmp 19) 1, type := 0, pos := "law.go:13", after := #[{ on := 8, ground := Ground.data }], guard := none }) (v := ?_) rfl (by kernel_rfl) (by kernel_rfl) (by kernel_rfl) (fun _ _ _ h => h) (Or.inl ⟨by rfl, ?_⟩) (by assumption) ?_
      rotate_left
      · intro w hSw; obtain ⟨s0, s1⟩ := hSw; go_simp; (try with_reducible rfl)
      simp only [Act.put, List.setIfInBounds_toArray, List.set_cons_zero, List.set_cons_succ]
      refine wpAnyH_take (i := 10) (oi := { dst := some 21, op := Op.load 32 (Operand.tmp 20), type := 32, pos := "law.go:13", after := #[{ on := 9, ground := Ground.data }], guard := none }) (v := ?_) rfl (by kernel_rfl) (by kernel_rfl) (by kernel_rfl) (fun _ _ _ h => h) (Or.inl ⟨by rfl, ?_⟩) (by assumption) ?_
      rotate_left
      · intro w hSw; obtain ⟨s0, s1⟩ := hSw; go_simp; (try with_reducible rfl)
      simp only [Act.put, List.setIfInBounds_toArray, List.set_cons_zero, List.set_cons_succ]
      refine wpAnyH_take (i := 11) (oi := { dst := some 22, op := Op.build 38 #[(0, Operand.tmp 16), (1, Operand.tmp 21)], type := 38, pos := "law.go:13", after := #[{ on := 5, ground := Ground.data }, { on := 10, ground := Ground.data }], guard := none }) (v := ?_) rfl (by kernel_rfl) (by kernel_rfl) (by kernel_rfl) (fun _ _ _ h => h) (Or.inl ⟨by rfl, ?_⟩) (by assumption) ?_
      rotate_left
      · intro w hSw; obtain ⟨s0, s1⟩ := hSw; go_simp; (try with_reducible rfl)
      simp only [Act.put, List.setIfInBounds_toArray, List.set_cons_zero, List.set_cons_succ]
      refine wpAnyH_ready (rs := [12]) (by kernel_rfl) (by simp) ?_
      refine AllReadyH.cons (o := { dst := some 23, op := Op.buildSlice 25 1 #[(0, Operand.tmp 22)], type := 25, pos := "law.go:13", after := #[{ on := 11, ground := Ground.data }], guard := none }) rfl (fun KK hKK => ?_) AllReadyH.nil
      go_simp
      have z1 : (wr.alloc (.cells #[.string (BA (ftx t)), .slice qa qn qc] 38)).cell? ⟨g, k * 2, none⟩ = some (.string (BA (ftx t))) ∧ (wr.alloc (.cells #[.string (BA (ftx t)), .slice qa qn qc] 38)).cell? ⟨g, k * 2 + 1, none⟩ = some (.slice qa qn qc) := ⟨cell_alloc (unhide HZ).1 _, cell_alloc (unhide HZ).2 _⟩
      refine hKK.out _ _ (by exact z1) (fun hHeld => ?_)
      clear hKK KK
      try simp only [Act.put, List.setIfInBounds_toArray, List.set_cons_zero, List.set_cons_succ]
      refine wpAnyH_ready (rs := [13]) (by kernel_rfl) (by simp) ?_
      refine AllReadyH.cons (o := { dst := some 24, op := Op.call { callee := Callee.builtin Builtin.append, args := #[Operand.tmp 11, Operand.tmp 23], argTypes := #[25, 25] }, type := 25, pos := "law.go:13", after := #[{ on := 0, ground := Ground.data }, { on := 12, ground := Ground.data }], guard := none }) rfl (fun KK hKK => ?_) AllReadyH.nil
      refine step_append_lies _ (by rfl) _ _ _ (by rfl) w.heap.size 38 iT _ 2 40 und_rfields hiT hzT0 hzT1 hzT2 rfl (by decide) u3 k (flatF Lk) (by simp [Act.eval]) (own_drew (World.ownsRow.alloc (unhide HO) _)) ⟨wr.heap.size, 0, none⟩ 1 1 [.string (BA (ftx t)), .slice qa qn qc] (by simp [Act.eval]) rfl (fun j u hu => two_drew j u hu) two_is (by decide) (by unfold maxLen; omega) (by omega) (by have := (unhide HB).size; simp; omega) (wr.heap.size + 1) (by simp) ?_
      intro gg cg w3 hown3 hgrow _ _
      have hne : some g ≠ u3.ownBlock := fun e => by have h1 := (World.ownsRow.lt (unhide HO) g e.symm).1; have h2 := unhide HG; omega
      have z2 : w3.cell? ⟨g, k * 2, none⟩ = some (.string (BA (ftx t))) ∧ w3.cell? ⟨g, k * 2 + 1, none⟩ = some (.slice qa qn qc) := ⟨hgrow.cell z1.1 hne, hgrow.cell z1.2 hne⟩
      have HW3 := hide hown3
      have HB3 : Hid (Below w.heap.size w w3) := hide (((unhide HB).alloc (unhide HB).size _).drew.grown hgrow (by have := (unhide HB).size; simp; omega) (fun j hj => (World.ownsRow.lt (unhide HO) j hj).1))
      clear hown3 hgrow hne
      refine hKK.out _ _ (by exact z2) (fun hHeld => ?_)
      clear hKK KK
      try simp only [Act.put, List.setIfInBounds_toArray, List.set_cons_zero, List.set_cons_succ]
      refine wpAnyH_take (i := 14) (oi := { dst := some 3, op := Op.assign (Operand.tmp 24), type := 25, pos := "law.go:13", after := #[{ on := 13, ground := Ground.data }, { on := 13, ground := Ground.chain }, { on := 0, ground := Ground.phase }, { on := 1, ground := Ground.phase }, { on := 2, ground := Ground.phase }, { on := 3, ground := Ground.phase }, { on := 4, ground := Ground.phase }, { on := 5, ground := Ground.phase }, { on := 6, ground := Ground.phase }, { on := 7, ground := Ground.phase }, { on := 8, ground := Ground.phase }, { on := 9, ground := Ground.phase }, { on := 10, ground := Ground.phase }, { on := 11, ground := Ground.phase }, { on := 12, ground := Ground.phase }, { on := 13, ground := Ground.phase }], guard := none }) (v := ?_) rfl (by kernel_rfl) (by kernel_rfl) (by kernel_rfl) (fun _ _ _ h => h) (Or.inl ⟨by rfl, ?_⟩) (by assumption) ?_
      rotate_left
      · intro w hSw; obtain ⟨s0, s1⟩ := hSw; go_simp; (try with_reducible rfl)
      simp only [Act.put, List.setIfInBounds_toArray, List.set_cons_zero, List.set_cons_succ]
      clear hHeld
      refine wpAnyH_done (by kernel_rfl) ?_ _
      clear z1 z2
      go_wp2
      go_roundw
      case rel => exact ⟨k + 1, by go_num, by omega, hide ⟨unhide HB3, Lk ++ [(t, .slice qa qn qc)], plain_snoc (unhide HLk) (unhide HT), by rw [flatF_snoc]; exact unhide HW3, fun x hx => (List.mem_append.1 hx).elim (unhide HQk x) (fun hx => by simp at hx; subst hx; exact unhide HQ)⟩⟩
      case measure => simp [intOf]; omega
    · have hlt1 : ¬ (k : Int) < (n : Int) := by omega
      have HTR : Hid (FRow wr u3 ts) := hide (by
        have e1 : Lk.map Prod.fst = ts := by rw [unhide HLk]; exact List.take_of_length_le (by have := unhide HN; omega)
        have e2 : Lk.length = k := by have := congrArg List.length e1; rw [List.length_map] at this; have := unhide HN; omega
        have h1 := unhide HO
        rw [← e2] at h1
        have h2 := frow_of h1 (fun x hx => (unhide HQk x hx).below (unhide HB))
        rwa [e1] at h2)
      go_wp2
      go_ret
      exact ⟨u3, rfl, unhide HB, unhide HTR⟩

set_option maxRecDepth 100000 in
set_option maxHeartbeats 4000000 in
theorem same_any (f : Fd) (q1 q2 : Value) (w : World) (h1 : QRow w q1 (fqs f)) (h2 : QRow w q2 (fqs f)) (hl : f.length ≤ 1000000) : Calls Try.prog 16 #[.agg #[.string (BA (ftx f)), q1], .agg #[.string (BA (ftx f)), q2]] w fun e w' => e = .returned (.bool true) ∧ Below w.heap.size w w' := by
  have hl1 := fqs_len f
  obtain ⟨L, hL⟩ : ∃ L, L = fqs f := ⟨_, rfl⟩
  rw [← hL] at h1 h2 hl1
  obtain ⟨ad1, cap1, rfl, hs1⟩ := h1
  obtain ⟨ad2, cap2, rfl, hs2⟩ := h2
  obtain ⟨n, hn⟩ : ∃ n, n = L.length := ⟨_, rfl⟩
  rw [← hn]
  have HS : Hid (∀ (i : Nat) (x : Bool), L[i]? = some x → (∃ g, ad1 = some ⟨g, 0, none⟩ ∧ ∀ W, Below w.heap.size w W → W.cell? ⟨g, i, none⟩ = some (.bool x)) ∧ ∃ g, ad2 = some ⟨g, 0, none⟩ ∧ ∀ W, Below w.heap.size w W → W.cell? ⟨g, i, none⟩ = some (.bool x)) := hide (fun i x hx => by
    obtain ⟨g, e, hg, c⟩ := hs1 i x hx
    obtain ⟨g', e', hg', c'⟩ := hs2 i x hx
    exact ⟨⟨g, e, fun W hW => (hW.cell (p := ⟨g, _, none⟩) hg).trans c⟩, g', e', fun W hW => (hW.cell (p := ⟨g', _, none⟩) hg').trans c'⟩)
  have hnl : n ≤ 1000000 := by omega
  have HN := hide hn
  obtain ⟨T, hT⟩ : ∃ T, T = BA (ftx f) := ⟨_, rfl⟩
  rw [← hT]
  have HB0 : Hid (∀ a b c d, Below w.heap.size w ((w.alloc (.cells #[a, b] 38)).alloc (.cells #[c, d] 38))) := hide (fun a b c d => ((Below.refl _ w).alloc (Nat.le_refl _) _).alloc (by simp) _)
  clear hs1 hs2 hn hl hl1 hL hT
  go_enter Try.func16, Try.ntmps16
  go_wp2
  obtain ⟨W0, hW0⟩ : ∃ x, x = (w.alloc (.cells #[.string T, .slice ad1 n cap1] 38)).alloc (.cells #[.string T, .slice ad2 n cap2] 38) := ⟨_, rfl⟩
  have HBW : Hid (Below w.heap.size w W0) := hide (by rw [hW0]; exact unhide HB0 _ _ _ _)
  have k1 : Blk W0 w.heap.size 38 #[.string T, .slice ad1 n cap1] := by rw [hW0]; exact (Blk.new _ _ _).alloc _
  have k2 : Blk W0 (w.heap.size + 1) 38 #[.string T, .slice ad2 n cap2] := by rw [hW0]; simpa using Blk.new (w.alloc (.cells #[.string T, .slice ad1 n cap1] 38)) _ _
  have c1 : W0.cell? ⟨w.heap.size, 1, none⟩ = some (.slice ad1 n cap1) := k1.cell 1 rfl
  have c2 : W0.cell? ⟨w.heap.size + 1, 1, none⟩ = some (.slice ad2 n cap2) := k2.cell 1 rfl
  have KK := hide (And.intro k1 k2)
  rw [← hW0]
  clear hW0 HB0 k1 k2 c1 c2
  go_loopw [5] (fun i wr => ∃ k : Nat, k ≤ n ∧ i = .int .i64 k ∧ Hid (Below W0.heap.size W0 wr)) (fun i _ => n - (intOf i).toNat)
  case atStart => exact ⟨0, by omega, rfl, hide (Below.refl _ _)⟩
  case round =>
    obtain ⟨k, hk, rfl, HB⟩ := hrel
    have HBB : Hid (Below w.heap.size w wr) := hide ((unhide HBW).trans ((unhide HB).mono (unhide HBW).size))
    have c1 : wr.cell? ⟨w.heap.size, 1, none⟩ = some (.slice ad1 n cap1) := ((unhide KK).1.below (unhide HB) (unhide KK).1.lt).cell 1 rfl
    have c2 : wr.cell? ⟨w.heap.size + 1, 1, none⟩ = some (.slice ad2 n cap2) := ((unhide KK).2.below (unhide HB) (unhide KK).2.lt).cell 1 rfl
    by_cases hlt : k < n
    · have hkt : k < L.length := by have := unhide HN; omega
      obtain ⟨t, ht⟩ : ∃ t, L[k]? = some t := ⟨_, List.getElem?_eq_getElem hkt⟩
      obtain ⟨⟨g1, rfl, a1⟩, g2, rfl, a2⟩ := unhide HS k t ht
      have d1 := a1 wr (unhide HBB)
      have d2 := a2 wr (unhide HBB)
      have hlt1 : (k : Int) < (n : Int) := by omega
      have hk0 : (0 : Int) ≤ (k : Int) := by omega
      clear hkt ht a1 a2
      cases t
      all_goals
        go_wp2_with fail
        go_quiet (fail)
        go_wp2
        go_roundw
        case rel => exact ⟨k + 1, by omega, by go_num, hide ((unhide HB).trans ((below_drew _ _).mono (unhide HB).size))⟩
        case measure => simp [intOf]; omega
    · go_wp2
      go_ret
      exact ⟨rfl, unhide HBB⟩

theorem one_take {l : List Pc} {k : Nat} {p : Pc} (h : l[k]? = some p) : oneL (l.take (k + 1)) = oneL (l.take k) ++ oneP p := by
  unfold oneL
  rw [List.take_add_one, h, List.flatMap_append]
  simp
theorem one_len (M : Nat) : ∀ l : List Pc, (∀ p ∈ l, p.text.length ≤ M) → (oneL l).length ≤ l.length * (M + 1)
  | [], _ => by simp [oneL]
  | p :: l, h => by
    have h1 := one_len M l (fun x hx => h x (by simp [hx]))
    have h2 := h p (by simp)
    have h3 : (oneP p).length ≤ M + 1 := by
      unfold oneP
      split
      · simp
      · rw [qt_len]; omega
    show (oneP p ++ oneL l).length ≤ (l.length + 1) * (M + 1)
    rw [List.length_append, Nat.add_mul]
    omega
/-- What One has while it goes on. -/
def OI (w wr : World) (f : Fd) : Prop := ∃ tv qv, Blk wr (w.heap.size + 1) 50 #[tv, qv] ∧ OwnB wr w.heap.size tv (ftx f) ∧ OwnQ wr w.heap.size qv (fqs f) ∧ Blk wr w.heap.size 34 #[.string ⟨#[]⟩, .slice none 0 0] ∧ Below w.heap.size w wr
theorem OI.kept {w wr w1 : World} {f : Fd} (h : OI w wr f) (hb : Below wr.heap.size wr w1) : OI w w1 f := by
  obtain ⟨tv, qv, h1, h2, h3, h4, h5⟩ := h
  have hg : GrownS wr w1 (fun _ => False) := grownS_of_below hb
  exact ⟨tv, qv, h1.grownS hg (fun e => e), own_grownS h2 hg (fun _ _ e => e), own_grownS h3 hg (fun _ _ e => e), h4.grownS hg (fun e => e), h5.trans (hb.mono h5.size)⟩
theorem OI.add {w wr : World} {f : Fd} (h : OI w wr f) (t : List UInt8) (q : Bool) (hl : f.length + t.length ≤ 1000000) :
    Calls Try.prog 22 #[.pointer (some ⟨w.heap.size + 1, 0, none⟩), .string (BA t), .bool q] wr fun e w' => e = .returned (.tuple #[]) ∧ OI w w' (f ++ qt q t) := by
  obtain ⟨tv, qv, h1, h2, h3, h4, h5⟩ := h
  refine (add_any t q wr w.heap.size _ tv qv _ _ h1 h2 h3 h5.size (by rw [ftx_len]; exact hl) (by rw [fqs_len]; exact hl)).mono fun _ w' ⟨e1, e2⟩ => ⟨e1, ?_⟩
  obtain ⟨tv', qv', a1, a2, a3, a4, a5, a6⟩ := e2
  refine ⟨tv', qv', a1, by rw [ftx_app, ftx_qt]; exact a2, by rw [fqs_app, fqs_qt]; exact a3, h4.grownS a4 ?_, h5.trans (a4.below h5.size ?_)⟩
  · rintro (e | e | e)
    · omega
    · exact own_type h2 h4 (by decide) e.symm
    · exact own_type h3 h4 (by decide) e.symm
  · rintro k (e | e | e)
    · omega
    · exact (World.ownsRow.lt h2 k e).1
    · exact (World.ownsRow.lt h3 k e).1
set_option maxRecDepth 100000 in
set_option maxHeartbeats 4000000 in
theorem one_any (v : Value) (l : List Pc) (w : World) (M : Nat) (h : PRow w v l) (hM : ∀ p ∈ l, p.text.length ≤ M) (hl : (l.length + 1) * (M + 1) ≤ 900000) :
    Calls Try.prog 14 #[v] w fun e w' => ∃ q, e = .returned (.agg #[.string (BA (ftx (oneL l))), q]) ∧ Below w.heap.size w w' ∧ QRow w' q (fqs (oneL l)) := by
  obtain ⟨ad, cap, rfl, hp⟩ := h
  obtain ⟨N, hN⟩ : ∃ N, N = l.length := ⟨_, rfl⟩
  rw [← hN] at hl ⊢
  have hNl : N ≤ 900000 := by
    have : (N + 1) * 1 ≤ (N + 1) * (M + 1) := Nat.mul_le_mul_left _ (by omega)
    omega
  have HLL : Hid (∀ k, k ≤ N → k * (M + 1) + M + 1 ≤ 900000) := hide (fun k hk => by
    have h1 : (k + 1) * (M + 1) ≤ (N + 1) * (M + 1) := Nat.mul_le_mul_right _ (by omega)
    rw [Nat.add_mul k 1] at h1
    omega)
  have HSZ : Hid (∀ k, k ≤ N → (oneL (l.take k)).length ≤ k * (M + 1)) := hide (fun k hk => by
    have h1 := one_len M (l.take k) (fun p hp => hM p (List.mem_of_mem_take hp))
    have h2 : (l.take k).length * (M + 1) ≤ k * (M + 1) := Nat.mul_le_mul_right _ (List.length_take_le k l)
    omega)
  have HM := hide hM
  have HN := hide hN
  have HPB : Hid (∀ (i : Nat) (x : Pc), l[i]? = some x → ∃ g o, ad = some ⟨g, o, none⟩ ∧ ∀ wr, Below w.heap.size w wr → 
    wr.cell? ⟨g, o + i * 4, none⟩ = some (.string (BA x.text)) ∧ wr.cell? ⟨g, o + i * 4 + 1, none⟩ = some (.bool x.q) ∧ wr.cell? ⟨g, o + i * 4 + 2, none⟩ = some (.bool x.s) ∧ wr.cell? ⟨g, o + i * 4 + 3, none⟩ = some (.bool x.b)) := hide (fun i x hi => by
      obtain ⟨g, o, e, hg, c0, c1, c2, c3⟩ := hp i x hi
      exact ⟨g, o, e, fun wr hb => ⟨(hb.cell (p := ⟨g, _, none⟩) hg).trans c0, (hb.cell (p := ⟨g, _, none⟩) hg).trans c1, (hb.cell (p := ⟨g, _, none⟩) hg).trans c2, (hb.cell (p := ⟨g, _, none⟩) hg).trans c3⟩⟩)
  have HI0 : Hid (OI w ((w.alloc (.cells #[.string ⟨#[]⟩, .slice none 0 0] 34)).alloc (.cells #[.slice none 0 0, .slice none 0 0] 50)) []) := hide ⟨_, _, by simpa using Blk.new (w.alloc (.cells #[.string ⟨#[]⟩, .slice none 0 0] 34)) 50 #[.slice none 0 0, .slice none 0 0], ownB_nil _ _, ownQ_nil _ _, (Blk.new _ _ _).alloc _, ((Below.refl _ w).alloc (Nat.le_refl _) _).alloc (by simp) _⟩
  clear hp hN hM hl
  go_enter Try.func14, Try.ntmps14
  go_wp2
  generalize (w.alloc (.cells #[.string ⟨#[]⟩, .slice none 0 0] 34)).alloc (.cells #[.slice none 0 0, .slice none 0 0] 50) = W0 at HI0 ⊢
  go_loopw [8] (fun i wr => ∃ k : Nat, i = .int .i64 k ∧ k ≤ N ∧ Hid (OI w wr (oneL (l.take k)))) (fun i _ => N - (intOf i).toNat)
  case atStart => exact ⟨0, rfl, Nat.zero_le _, HI0⟩
  case round =>
    clear HI0 W0
    obtain ⟨k, rfl, hk, HI⟩ := hrel
    by_cases hlt : k < N
    · obtain ⟨⟨t, q, sp, br⟩, hx⟩ : ∃ x, l[k]? = some x := ⟨_, List.getElem?_eq_getElem (by have := unhide HN; omega)⟩
      have HTM : Hid (t.length ≤ M) := hide (unhide HM _ (List.mem_of_getElem? hx))
      have HR := hide (one_take hx)
      obtain ⟨gp, o, rfl, hc⟩ := unhide HPB k _ hx
      obtain ⟨_, _, _, _, _, _, hbw⟩ := unhide HI
      obtain ⟨c0, c1, c2, c3⟩ := hc wr hbw
      simp only at c0 c1 c2 c3
      have HS1 := hide (unhide HSZ k hk)
      have HS2 := hide (unhide HLL k hk)
      have HIP : Hid (OI w (wr.alloc (.cells #[.string (BA t), .bool q, .bool sp, .bool br] 42)) (oneL (l.take k))) := hide ((unhide HI).kept ((Below.refl _ _).alloc (Nat.le_refl _) _))
      have hkz : (k : Int) < (N : Int) := by omega
      clear hc hx hbw
      cases br with
      | true =>
        have HA : Hid (Calls Try.prog 22 #[.pointer (some ⟨w.heap.size + 1, 0, none⟩), .string ⟨#[32]⟩, .bool false] (wr.alloc (.cells #[.string (BA t), .bool q, .bool sp, .bool true] 42)) fun e w' => e = .returned (.tuple #[]) ∧ OI w w' (oneL (l.take k) ++ qt false [32])) := hide ((unhide HIP).add [32] false (by have := unhide HS1; have := unhide HS2; simp; omega))
        go_wp2_with fail
        refine (unhide HA).mono ?_
        rintro e w2 ⟨rfl, hF⟩
        have HF := hide hF
        clear hF
        go_wp2
        go_roundw
        case rel => exact ⟨k + 1, by go_num, by omega, hide (by rw [unhide HR]; exact unhide HF)⟩
        case measure => simp [intOf]; omega
      | false =>
        have HA := hide ((unhide HIP).add t q (by have := unhide HS1; have := unhide HS2; have := unhide HTM; omega))
        go_wp2_with fail
        refine (unhide HA).mono ?_
        rintro e w2 ⟨rfl, hF⟩
        have HF := hide hF
        clear hF
        go_wp2
        go_roundw
        case rel => exact ⟨k + 1, by go_num, by omega, hide (by rw [unhide HR]; exact unhide HF)⟩
        case measure => simp [intOf]; omega
    · have HTA : Hid (l.take k = l) := hide (List.take_of_length_le (by have := unhide HN; omega))
      rw [unhide HTA] at HI
      obtain ⟨tv, qv, h1, h2, h3, h4, h5⟩ := unhide HI
      have HF := hide (field_any wr w.heap.size _ tv qv _ _ h1 h2 h3)
      obtain ⟨qa, qn, qc, rfl⟩ := slice_own h3
      have HB := hide h5
      have HB4 := hide h4
      have HQ := hide h3
      clear h1 h2 h3 h4 h5
      go_wp2_with fail
      refine (unhide HF).mono ?_
      rintro e w2 ⟨rfl, hb2⟩
      have HB2 := hide hb2
      have KB := hide ((unhide HB4).below hb2 (unhide HB4).lt)
      have x0 : w2.cell? ⟨w.heap.size, 0, none⟩ = some (.string ⟨#[]⟩) := (unhide KB).cell 0 rfl
      have x1 : w2.cell? ⟨w.heap.size, 1, none⟩ = some (.slice none 0 0) := (unhide KB).cell 1 rfl
      have y0 : w2.frozen? ⟨w.heap.size, 0, none⟩ = false := (unhide KB).frozen 0
      have y1 : w2.frozen? ⟨w.heap.size, 1, none⟩ = false := (unhide KB).frozen 1
      have HEND : Hid (Blk ((w2.setCell ⟨w.heap.size, 0, none⟩ (.string (BA (ftx (oneL l))))).setCell ⟨w.heap.size, 1, none⟩ (.slice qa qn qc)) w.heap.size 34 #[.string (BA (ftx (oneL l))), .slice qa qn qc]) := hide (by
        have := ((unhide KB).set 0 (.string (BA (ftx (oneL l))))).set 1 (.slice qa qn qc)
        simpa using this)
      have HG3 : Hid (GrownS w2 ((w2.setCell ⟨w.heap.size, 0, none⟩ (.string (BA (ftx (oneL l))))).setCell ⟨w.heap.size, 1, none⟩ (.slice qa qn qc)) (fun k => k = w.heap.size)) := hide ((setb_grown _ _ _ _).trans (setb_grown _ _ _ _))
      have HB3 : Hid (Below w.heap.size w w2) := hide ((unhide HB).trans (hb2.mono (unhide HB).size))
      have HQ3 : Hid (QRow ((w2.setCell ⟨w.heap.size, 0, none⟩ (.string (BA (ftx (oneL l))))).setCell ⟨w.heap.size, 1, none⟩ (.slice qa qn qc)) (.slice qa qn qc) (fqs (oneL l))) := hide (by
        have q2 : OwnQ w2 w.heap.size (.slice qa qn qc) (fqs (oneL l)) := own_grownS (S := fun _ => False) (unhide HQ) (grownS_of_below hb2) (fun _ _ e => e)
        exact (show OwnQ _ _ _ _ from own_grownS q2 (unhide HG3) (fun k hk e => own_type q2 (unhide KB) (by decide) (by rw [← e]; exact hk.symm))).form)
      clear hb2
      go_wp2
      refine bodyPost_ret (results_cell_row (P := Try.prog) rfl _ _ w.heap.size 34 _ (0, 0) _ rfl (unhide HEND) Try.underlying34 rfl (by kernel_rfl)) rfl ⟨_, rfl, (unhide HB3).trans ((unhide HG3).below (unhide HB3).size (fun k e => by omega)), unhide HQ3⟩

end Go.Proofs.Ytpljphbaibncjaa

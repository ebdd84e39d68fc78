/-
  A text in place is awaited: the lexer's 'await'.
-/
import Derived.Test.YtlmpdfeidjnmnaaDoorNewl
import Derived.Test.YtlmpdfeidjnmnaaDoorCont
import Derived.Deep.AppendLies
namespace Go.Proofs.YtlmpdfeidjnmnaaDoor
open Go.RowKit

theorem und_wts : Tryd.prog.underlying 51 = some (.slice 58) := by kernel_rfl
theorem info_wtp : (Tryd.prog.info? 58).map (fun i => (i.zero, i.size, i.bytes)) = some (some (.pointer none), 1, 8) := by kernel_rfl
theorem cell_alloc {w : World} {a : Addr} {v : Value} (h : w.cell? a = some v) (o : Obj) : (w.alloc o).cell? a = some v := (World.grownBy_alloc w o none).cell h (by simp)
theorem one_ptr2 {w : World} {x : Value} {t u : TypeId} {cs : Array Value} : ∀ j v, [x][j]? = some v → ((w.alloc (.cells cs t)).alloc (.cells #[x] u)).cell? ((⟨w.heap.size + 1, 0, none⟩ : Addr).add j) = some v := by
  intro j v hj
  have hb := Blk.new (w.alloc (.cells cs t)) u #[x]
  rw [show (w.alloc (.cells cs t)).heap.size = w.heap.size + 1 by simp] at hb
  match j, hj with
  | 0, hj => simp at hj; subst hj; rw [add_at]; exact hb.cell 0 rfl
theorem rows_ne {w : World} {base base' n n' : Nat} {e e' : TypeId} {v u : Value} {xs ys : List Value} (h : w.ownsRow base e 1 v n xs) (h' : w.ownsRow base' e' 1 u n' ys) (hne : e ≠ e') {k : Nat} (hk : v.ownBlock = some k) : some k ≠ u.ownBlock := by
  rcases h.2 with ⟨rfl, _⟩ | ⟨g, cap, cur, rfl, _, hg, _⟩
  · simp [Value.ownBlock] at hk
  · have hk : g = k := by simpa [Value.ownBlock] using hk
    subst hk
    exact own_type h' (show Blk w g e cur from hg) hne
/-- The whole state is as it was where nothing that is older has turned. -/
theorem LexAt.below {w w1 : World} {b : Nat} {v u : Value} {s : ByteArray} {r : Nat} {ps ks : List Nat} {st : LS} (h : LexAt w b v u s r ps ks st) {n : Nat} (hb : Below n w w1) (hn : w.heap.size ≤ n) : LexAt w1 b v u s r ps ks st := by
  have hg : GrownS w w1 (fun _ => False) := ⟨hb.os, hb.tape, hb.output, hb.size, fun k hk _ => hb.block k (by omega)⟩
  exact ⟨h.rdr.grownS hg (fun e => e), h.toks.grownS hg (fun _ _ e => e) (fun _ _ e => e), h.wts.grownS hg (fun _ _ e => e) (fun _ _ e => e), h.rest, h.zero⟩
theorem Wts.at {w : World} {base : Nat} {u : Value} {ks ps : List Nat} {ws : List Wt} (h : Wts w base u ks ps ws) {k : Nat} (hk : k ∈ ks) : base ≤ k ∧ ∃ C, Blk w k 57 C := by
  obtain ⟨i, hi, rfl⟩ := List.getElem_of_mem hk
  have hi2 : i < ws.length := by rw [← h.len]; exact hi
  obtain ⟨h3, q, _, h5⟩ := h.blk i ks[i] ws[i] (List.getElem?_eq_getElem hi) (List.getElem?_eq_getElem hi2)
  exact ⟨h3, _, h5⟩

theorem tok_kept {w2 w3 : World} {b n q : Nat} {u : Value} {xs : List Value} {cs : Array Value} {o1 o2 : Obj} (hrow : w2.ownsRow (b + 1) 58 1 u n xs) (hq : Blk w2 q 37 cs) (hg : ((w2.alloc o1).alloc o2).grownBy w3 u.ownBlock) : Blk w3 q 37 cs :=
  ((hq.alloc o1).alloc o2).kept hg (own_type (World.ownsRow.alloc (World.ownsRow.alloc hrow o1) o2) ((hq.alloc o1).alloc o2) (by decide))
/-- One awaited text more, behind the append and the store. -/
theorem await_fin {w2 w3 : World} {b : Nat} {v u u' : Value} {s : ByteArray} {r : Nat} {ps ks : List Nat} {st : LS} {i q : Nat} {en : List UInt8} {T : Bool} {o2 : Obj} (h : LexAt w2 b v u s r ps ks st) (hpi : ps[i]? = some q)
    (hown : w3.ownsRow (b + 1) 58 1 u' (ks.length + 1) (ptrs ks ++ [.pointer (some ⟨w2.heap.size, 0, none⟩)])) (hg : ((w2.alloc (.cells (wtCells q (BA en) T) 57)).alloc o2).grownBy w3 u.ownBlock) :
    w3.cell? ⟨b, 6, none⟩ = some u ∧ w3.frozen? ⟨b, 6, none⟩ = false ∧ LexAt (w3.setCell ⟨b, 6, none⟩ u') b v u' s r ps (ks ++ [w2.heap.size]) { st with wait := st.wait ++ [⟨i, en, T⟩] } ∧ GrownS w2 (w3.setCell ⟨b, 6, none⟩ u') (fun y => b ≤ y) := by
  have hbl := h.rdr.blk.lt
  have g3 : GrownS w2 w3 (fun k => some k = u.ownBlock) := (GrownS.of (World.grownBy_alloc w2 _ none) (by simp)).trans ((GrownS.of (World.grownBy_alloc _ _ none) (by simp)).trans (GrownS.of hg (fun _ e => e)))
  have hub : some b ≠ u.ownBlock := own_type h.wts.row h.rdr.blk (by decide)
  have r3 := h.rdr.grownS g3 hub
  have t3 := h.toks.grownS g3 (fun k hk => rows_ne h.toks.row h.wts.row (by decide) hk) (fun p hp => by
    obtain ⟨_, t, ht⟩ := h.toks.at hp
    exact own_type h.wts.row ht (by decide))
  have gs : GrownS w3 (w3.setCell ⟨b, 6, none⟩ u') (fun y => y = b) := GrownS.of (grown_setCell w3 ⟨b, 6, none⟩ _) (fun x e => by simpa using e)
  have hu' : some b ≠ u'.ownBlock := own_type hown r3.blk (by decide)
  have hnew : Blk w3 w2.heap.size 57 (wtCells q (BA en) T) := by
    have h0 : Blk ((w2.alloc (.cells (wtCells q (BA en) T) 57)).alloc o2) w2.heap.size 57 (wtCells q (BA en) T) := (Blk.new w2 _ _).alloc _
    exact h0.kept hg (own_type (World.ownsRow.alloc (World.ownsRow.alloc h.wts.row _) _) h0 (by decide))
  refine ⟨r3.blk.cell 6 (by simp), r3.blk.frozen 6, ⟨r3.waits u', t3.grownS gs (fun k hk e => own_type t3.row r3.blk (by decide) (by rw [← e]; exact hk.symm)) (fun p hp e => by have := (h.toks.at hp).1; omega), ?_, h.rest, h.zero⟩, (g3.mono (fun k _ e => ?_)).trans (gs.mono (fun _ _ e => by omega))⟩
  · refine ⟨?_, by rw [List.length_append, List.length_append, h.wts.len]; rfl, ?_⟩
    · have e : ptrs (ks ++ [w2.heap.size]) = ptrs ks ++ [.pointer (some ⟨w2.heap.size, 0, none⟩)] := by simp [ptrs]
      rw [e, List.length_append]
      exact own_grownS hown gs (fun k hk e => hu' (by rw [← e]; exact hk.symm))
    · intro j k x hk hx
      rcases Nat.lt_or_ge j ks.length with hj | hj
      · rw [List.getElem?_append_left hj] at hk
        rw [List.getElem?_append_left (by rw [← h.wts.len]; exact hj)] at hx
        obtain ⟨h3, q', h4, h5⟩ := h.wts.blk j k x hk hx
        exact ⟨h3, q', h4, (h5.grownS g3 (own_type h.wts.row h5 (by decide))).grownS gs (by show ¬ k = b; omega)⟩
      · rw [List.getElem?_append_right hj] at hk
        rw [List.getElem?_append_right (by rw [← h.wts.len]; exact hj)] at hx
        have h0 : j - ks.length = 0 := by
          have := (List.getElem?_eq_some_iff.1 hk).1
          simp at this
          omega
        rw [h0] at hk
        rw [← h.wts.len, h0] at hx
        simp at hk hx
        subst hk hx
        exact ⟨by omega, q, hpi, hnew.grownS gs (by show ¬ w2.heap.size = b; omega)⟩
  · have := (World.ownsRow.lt h.wts.row k e.symm).1
    omega

set_option maxRecDepth 100000 in
set_option maxHeartbeats 40000000 in
theorem await_two (w : World) (b : Nat) (v u : Value) (s : ByteArray) (r : Nat) (ps ks : List Nat) (st : LS) (word : List UInt8) (m : Int) (q : Nat) (t : Tok) (h : LexAt w b v u s r ps ks st) (hw : st.wait.length ≤ 100000) (hl : st.toks.length ≤ 100000) (hwd : word.length ≤ 100000) (hm : w.cell? ⟨1, 0, none⟩ = some (.int .i64 m)) (hb1 : 1 < b) (hp : ps[st.toks.length - 1]? = some q) (ht : st.toks[st.toks.length - 1]? = some t) (htx : t.text = ⟨#[60, 60]⟩) :
    Calls Tryd.prog 54 #[.pointer (some ⟨b, 0, none⟩), .string (BA word)] w fun e w' => e = .returned (.tuple #[]) ∧ ∃ u' ks', LexAt w' b v u' s r ps ks' (awaitL st word) ∧ GrownS w w' (fun y => b ≤ y) := by
  obtain ⟨i0, hi, hz0, hz1, hz2⟩ := info_of info_wtp
  obtain ⟨n, hn⟩ : ∃ n, n = st.toks.length - 1 := ⟨_, rfl⟩
  have hlen1 : 0 < st.toks.length := by
    have := (List.getElem?_eq_some_iff.1 ht).1
    omega
  rw [← hn] at hp ht
  obtain ⟨B, hB⟩ : ∃ B, B = word.any (fun c => c == 92 || c == 39 || c == 34) := ⟨_, rfl⟩
  obtain ⟨st1, hst1⟩ : ∃ x : LS, x = { st with toks := st.toks.modify n (fun t => { t with raw := B }) } := ⟨_, rfl⟩
  have HAW : Hid (awaitL st word = { st1 with wait := st1.wait ++ [⟨n, endL word, false⟩] }) := hide (by
    unfold awaitL
    have hgl : st.toks.getLast? = some t := by rw [List.getLast?_eq_getElem?, ← hn]; exact ht
    rw [hgl]
    have e : t.text = BA [60, 60] := by rw [htx]; rfl
    have e1 : (t.text = BA [60, 60] ∨ t.text = BA [60, 60, 45]) := by rw [e]; first | exact .inl rfl | exact .inr rfl
    simp only [e1, if_true, hst1, ← hn, ← hB]
    rw [e, show (BA [60, 60] == BA [60, 60, 45]) = false from by decide])
  obtain ⟨hbq, hqb⟩ := h.toks.blk n q t hp ht
  obtain ⟨ad, cap, hv, hsh⟩ := ptr_shape h.toks.row rfl
  obtain ⟨g, hg0, hgl, hcg⟩ := hsh n q hp
  subst hg0
  have hpsl : ps.length = n + 1 := by rw [h.toks.len]; omega
  rw [hpsl] at hv
  subst hv
  obtain ⟨ua, uc, hu, _⟩ := ptr_shape h.wts.row rfl
  subst hu
  have hks : ks.length ≤ 100000 := by rw [h.wts.len]; exact hw
  have c5 : w.cell? ⟨b, 5, none⟩ = some (.slice (some ⟨g, 0, none⟩) (n + 1) cap) := h.rdr.blk.cell 5 (by simp)
  have q1 : w.cell? ⟨q, 1, none⟩ = some (.string ⟨#[60, 60]⟩) := by rw [← htx]; exact hqb.cell 1 rfl
  have hnn : n + 1 ≤ 100000 := by omega
  have hwr : IntKind.i64.wrap (((n + 1 : Nat) : Int) - 1) = (n : Int) := by rw [IntKind.wrap_i64]; omega
  have hz : (((n + 1 : Nat) : Int) == 0) = false := by rw [beq_eq_false_iff_ne]; omega
  have hidx : (n : Int) < ((n + 1 : Nat) : Int) := by omega
  have hn0 : (0 : Int) ≤ (n : Int) := by omega
  have HH := hide h
  have HM := hide hm
  have HQB := hide hqb
  have HTT := hide ht
  have HPP := hide hp
  have HTX := hide htx
  have HST := hide hst1
  have HBB := hide hB
  have hbl := h.rdr.blk.lt
  clear h hm hqb ht hp htx hst1 hB hn hsh hgl hlen1 hpsl hl hw
  have HCA := hide (contains3_any word hwd)
  go_enter Tryd.func54, Tryd.ntmps54
  go_wp2_with fail
  go_quiet (fail)
  obtain ⟨wA, hwA⟩ : ∃ x, x = w.drewN nq := ⟨_, rfl⟩
  have gA : GrownS w wA (fun _ => False) := by rw [hwA]; exact GrownS.of (grown_drewN w nq) (by simp)
  have qA : wA.cell? ⟨q, 1, none⟩ = some (.string ⟨#[60, 60]⟩) := by rw [hwA]; exact q1
  rw [← hwA]
  have BA0 : Below w.heap.size w wA := by rw [hwA]; exact below_drew w nq
  have HBA := hide BA0
  clear hwA c5 hcg gA BA0
  go_wp2_with fail
  refine (unhide HCA wA).mono ?_
  rintro en wB ⟨rfl, bB⟩
  rw [← unhide HBB]
  have hA := (unhide HH).below (unhide HBA) (Nat.le_refl _)
  have hBst := hA.below bB (Nat.le_refl _)
  have hqB := (unhide HQB).grownS (grownS_of_below (S := fun _ => False) (unhide HBA)) (fun e => e)
  have hqB := hqB.grownS (grownS_of_below (S := fun _ => False) bB) (fun e => e)
  have hC : LexAt (wB.setCell ⟨q, 4, none⟩ (.bool B)) b (.slice (some ⟨g, 0, none⟩) (n + 1) cap) (.slice ua ks.length uc) s r ps ks st1 := by
    have gq : GrownS wB (wB.setCell ⟨q, 4, none⟩ (.bool B)) (fun y => y = q) := GrownS.of (grown_setCell wB ⟨q, 4, none⟩ _) (fun x e => by simpa using e)
    refine ⟨?_, ?_, ?_, ?_, ?_⟩
    · rw [unhide HST]
      exact hBst.rdr.grownS gq (by show ¬ b = q; omega)
    · rw [unhide HST]
      exact hBst.toks.write (c := 4) (x := .bool B) (fun t => { t with raw := B }) (unhide HPP) (unhide HTT) rfl
    · rw [unhide HST]
      exact hBst.wts.past hBst.rdr.blk hqB (gq.mono (fun _ _ e => .inr e))
    · rw [unhide HST]; exact hBst.rest
    · rw [unhide HST]; exact hBst.zero
  have HG0 : Hid (GrownS w wB (fun y => b ≤ y)) := hide ((grownS_of_below (unhide HBA)).trans (grownS_of_below bB))
  have q4 : wB.cell? ⟨q, 4, none⟩ = some (.bool t.raw) := hqB.cell 4 rfl
  have z4 := hqB.frozen 4
  have HG1' : Hid (GrownS wB (wB.setCell ⟨q, 4, none⟩ (.bool B)) (fun y => b ≤ y)) := hide (GrownS.of (grown_setCell wB ⟨q, 4, none⟩ _) (fun x e => (show x = q by simpa using e) ▸ (by omega : b ≤ q)))
  have HC := hide hC
  clear hA hBst hqB hC bB qA
  go_wp2_with fail
  obtain ⟨wC, hwC⟩ : ∃ x, x = wB.setCell ⟨q, 4, none⟩ (.bool B) := ⟨_, rfl⟩
  rw [← hwC] at HC HG1'
  rw [← hwC]
  clear hwC q4 z4
  have d6 : wC.cell? ⟨b, 6, none⟩ = some (.slice ua ks.length uc) := (unhide HC).rdr.blk.cell 6 (by simp)
  have HTI : Hid (st1.toks[n]? = some { t with raw := B }) := hide (by rw [unhide HST]; simp [unhide HTT])
  have hpi := unhide HPP
  have hqC := ((unhide HC).toks.blk n q _ hpi (unhide HTI)).2
  have y0 : wC.cell? ⟨q, 1, none⟩ = some (.string ⟨#[60, 60]⟩) := hqC.cell 1 (by rw [← unhide HTX]; rfl)
  have bU : Below wC.heap.size wC wC.drew := below_drew wC 1
  have hU := (unhide HC).below bU (Nat.le_refl _)
  have hbU : wC.drew.heap.size ≤ wC.drew.heap.size := Nat.le_refl _
  have HQ : Hid (True ∧ ∀ w2, Below wC.drew.heap.size wC.drew w2 → w2.cell? ⟨q, 1, none⟩ = some (.string ⟨#[60, 60]⟩)) := hide ⟨trivial, fun w2 hb2 => by
    rw [World.cell?_of_block (hb2.block q (hqC.below bU hqC.lt).lt), World.cell?_of_block (bU.block q hqC.lt)]
    exact y0⟩
  have hmU : wC.drew.cell? ⟨1, 0, none⟩ = some (.int .i64 m) := by
    rw [World.cell?_of_block (bU.block 1 (by have := hqC.lt; omega)), World.cell?_of_block ((unhide HG1').block 1 (by have := (unhide HG0).size; omega) (by omega)), World.cell?_of_block ((unhide HG0).block 1 (by omega) (by omega))]
    exact unhide HM
  have HE := hide (endLine_any (BA word) m wC.drew (by rw [BA_size]; omega) hmU (by have := (hqC.below bU hqC.lt).lt; omega))
  have HU := hide hU
  have HG1 : Hid (GrownS wB wC.drew (fun y => b ≤ y)) := hide ((unhide HG1').trans (grownS_of_below bU))
  clear hU hqC bU hmU HG1'
  refine wp_region_held_drew (S := fun w' => w'.cell? ⟨q, 1, none⟩ = some (.string ⟨#[60, 60]⟩)) (by kernel_rfl) (by assumption) (fun hHeld => ?_)
  refine wpAnyH_take (i := 0) (oi := { dst := some 40, op := Op.move (Operand.tmp 0), type := 75, pos := "inplace.go:27", after := #[], guard := none }) (v := ?_) rfl (by kernel_rfl) (by kernel_rfl) (by kernel_rfl) (fun _ _ _ h => h) (Or.inl ⟨by rfl, ?_⟩) (by assumption) ?_
  rotate_left
  · intro w hSw; (try dsimp only at hSw); go_simp; (try with_reducible rfl)
  simp only [Act.put, List.setIfInBounds_toArray, List.set_cons_zero, List.set_cons_succ]
  refine wpAnyH_take (i := 1) (oi := { dst := some 41, op := Op.move (Operand.tmp 0), type := 75, pos := "inplace.go:27", after := #[], guard := none }) (v := ?_) rfl (by kernel_rfl) (by kernel_rfl) (by kernel_rfl) (fun _ _ _ h => h) (Or.inl ⟨by rfl, ?_⟩) (by assumption) ?_
  rotate_left
  · intro w hSw; (try dsimp only at hSw); go_simp; (try with_reducible rfl)
  simp only [Act.put, List.setIfInBounds_toArray, List.set_cons_zero, List.set_cons_succ]
  refine wpAnyH_take (i := 2) (oi := { dst := some 42, op := Op.nilCheck (Operand.tmp 41), type := 0, pos := "inplace.go:27", after := #[{ on := 1, ground := Ground.data }], guard := none }) (v := ?_) rfl (by kernel_rfl) (by kernel_rfl) (by kernel_rfl) (fun _ _ _ h => h) (Or.inl ⟨by rfl, ?_⟩) (by assumption) ?_
  rotate_left
  · intro w hSw; (try dsimp only at hSw); go_simp; (try with_reducible rfl)
  simp only [Act.put, List.setIfInBounds_toArray, List.set_cons_zero, List.set_cons_succ]
  refine wpAnyH_take (i := 3) (oi := { dst := some 43, op := Op.fieldAddr 53 (Operand.tmp 42) 2, type := 0, pos := "inplace.go:27", after := #[{ on := 2, ground := Ground.data }], guard := none }) (v := ?_) rfl (by kernel_rfl) (by kernel_rfl) (by kernel_rfl) (fun _ _ _ h => h) (Or.inl ⟨by rfl, ?_⟩) (by assumption) ?_
  rotate_left
  · intro w hSw; (try dsimp only at hSw); go_simp; (try with_reducible rfl)
  simp only [Act.put, List.setIfInBounds_toArray, List.set_cons_zero, List.set_cons_succ]
  refine wpAnyH_take (i := 5) (oi := { dst := some 45, op := Op.move (Operand.tmp 4), type := 55, pos := "inplace.go:27", after := #[], guard := none }) (v := ?_) rfl (by kernel_rfl) (by kernel_rfl) (by kernel_rfl) (fun _ _ _ h => h) (Or.inl ⟨by rfl, ?_⟩) (by assumption) ?_
  rotate_left
  · intro w hSw; (try dsimp only at hSw); go_simp; (try with_reducible rfl)
  simp only [Act.put, List.setIfInBounds_toArray, List.set_cons_zero, List.set_cons_succ]
  refine wpAnyH_take (i := 6) (oi := { dst := some 46, op := Op.move (Operand.tmp 1), type := 9, pos := "inplace.go:27", after := #[], guard := none }) (v := ?_) rfl (by kernel_rfl) (by kernel_rfl) (by kernel_rfl) (fun _ _ _ h => h) (Or.inl ⟨by rfl, ?_⟩) (by assumption) ?_
  rotate_left
  · intro w hSw; (try dsimp only at hSw); go_simp; (try with_reducible rfl)
  simp only [Act.put, List.setIfInBounds_toArray, List.set_cons_zero, List.set_cons_succ]
  refine wpAnyH_take (i := 8) (oi := { dst := some 48, op := Op.move (Operand.tmp 4), type := 55, pos := "inplace.go:27", after := #[], guard := none }) (v := ?_) rfl (by kernel_rfl) (by kernel_rfl) (by kernel_rfl) (fun _ _ _ h => h) (Or.inl ⟨by rfl, ?_⟩) (by assumption) ?_
  rotate_left
  · intro w hSw; (try dsimp only at hSw); go_simp; (try with_reducible rfl)
  simp only [Act.put, List.setIfInBounds_toArray, List.set_cons_zero, List.set_cons_succ]
  refine wpAnyH_take (i := 9) (oi := { dst := some 49, op := Op.nilCheck (Operand.tmp 48), type := 0, pos := "inplace.go:27", after := #[{ on := 8, ground := Ground.data }], guard := none }) (v := ?_) rfl (by kernel_rfl) (by kernel_rfl) (by kernel_rfl) (fun _ _ _ h => h) (Or.inl ⟨by rfl, ?_⟩) (by assumption) ?_
  rotate_left
  · intro w hSw; (try dsimp only at hSw); go_simp; (try with_reducible rfl)
  simp only [Act.put, List.setIfInBounds_toArray, List.set_cons_zero, List.set_cons_succ]
  refine wpAnyH_take (i := 10) (oi := { dst := some 50, op := Op.fieldAddr 37 (Operand.tmp 49) 1, type := 0, pos := "inplace.go:27", after := #[{ on := 9, ground := Ground.data }], guard := none }) (v := ?_) rfl (by kernel_rfl) (by kernel_rfl) (by kernel_rfl) (fun _ _ _ h => h) (Or.inl ⟨by rfl, ?_⟩) (by assumption) ?_
  rotate_left
  · intro w hSw; (try dsimp only at hSw); go_simp; (try with_reducible rfl)
  simp only [Act.put, List.setIfInBounds_toArray, List.set_cons_zero, List.set_cons_succ]
  refine wpAnyH_take (i := 11) (oi := { dst := some 51, op := Op.load 9 (Operand.tmp 50), type := 9, pos := "inplace.go:27", after := #[{ on := 10, ground := Ground.data }], guard := none }) (v := ?_) rfl (by kernel_rfl) (by kernel_rfl) (by kernel_rfl) (fun _ _ _ h => h) (Or.inl ⟨by rfl, ?_⟩) (by assumption) ?_
  rotate_left
  · intro w hSw; (try dsimp only at hSw); go_simp; (try with_reducible rfl)
  simp only [Act.put, List.setIfInBounds_toArray, List.set_cons_zero, List.set_cons_succ]
  refine wpAnyH_take (i := 12) (oi := { dst := some 52, op := Op.binOp BinOp.eql 9 (Operand.tmp 51) (Operand.const (Value.string { data := #[60, 60, 45] })) 9, type := 4, pos := "inplace.go:27", after := #[{ on := 11, ground := Ground.data }], guard := none }) (v := ?_) rfl (by kernel_rfl) (by kernel_rfl) (by kernel_rfl) (fun _ _ _ h => h) (Or.inl ⟨by rfl, ?_⟩) (by assumption) ?_
  rotate_left
  · intro w hSw; (try dsimp only at hSw); go_simp; (try with_reducible rfl)
  simp only [Act.put, List.setIfInBounds_toArray, List.set_cons_zero, List.set_cons_succ]
  refine wpAnyH_ready (rs := [4, 7]) (by kernel_rfl) (by simp) ?_
  refine AllReadyH.cons (o := { dst := some 44, op := Op.load 51 (Operand.tmp 43), type := 51, pos := "inplace.go:27", after := #[{ on := 3, ground := Ground.data }], guard := none }) rfl (fun KK hKK => ?_) (AllReadyH.cons (o := { dst := some 47, op := Op.call { callee := Callee.value (Operand.func 65), args := #[Operand.tmp 46], argTypes := #[9] }, type := 9, pos := "inplace.go:27", after := #[{ on := 6, ground := Ground.data }], guard := none }) rfl (fun KK hKK => ?_) AllReadyH.nil)
  · go_simp
    refine hKK.out _ _ (by assumption) (fun hHeld => ?_)
    clear hKK KK
    try simp only [Act.put, List.setIfInBounds_toArray, List.set_cons_zero, List.set_cons_succ]
    refine wpAnyH_ready (rs := [7]) (by kernel_rfl) (by simp) ?_
    refine AllReadyH.cons (o := { dst := some 47, op := Op.call { callee := Callee.value (Operand.func 65), args := #[Operand.tmp 46], argTypes := #[9] }, type := 9, pos := "inplace.go:27", after := #[{ on := 6, ground := Ground.data }], guard := none }) rfl (fun KK hKK => ?_) AllReadyH.nil
    go_simp
    refine (unhide HE).mono ?_
    rintro e w2 ⟨rfl, bb2⟩
    have h2 := (unhide HU).below bb2 hbU
    have y1 : w2.cell? ⟨q, 1, none⟩ = some (.string ⟨#[60, 60]⟩) := (unhide HQ).2 w2 bb2
    have d6 : w2.cell? ⟨b, 6, none⟩ = some (.slice ua ks.length uc) := h2.rdr.blk.cell 6 (by simp)
    have HG2 := hide (grownS_of_below (S := fun y => b ≤ y) bb2)
    have H2 := hide h2
    clear h2 bb2 HE
    refine hKK.out _ _ (by assumption) (fun hHeld => ?_)
    clear hKK KK
    try simp only [Act.put, List.setIfInBounds_toArray, List.set_cons_zero, List.set_cons_succ]
    refine wpAnyH_take (i := 13) (oi := { dst := some 53, op := Op.build 57 #[(0, Operand.tmp 45), (1, Operand.tmp 47), (2, Operand.tmp 52)], type := 57, pos := "inplace.go:27", after := #[{ on := 5, ground := Ground.data }, { on := 7, ground := Ground.data }, { on := 12, ground := Ground.data }], guard := none }) (v := ?_) rfl (by kernel_rfl) (by kernel_rfl) (by kernel_rfl) (fun _ _ _ h => h) (Or.inl ⟨by rfl, ?_⟩) (by assumption) ?_
    rotate_left
    · intro w hSw; (try dsimp only at hSw); go_simp; (try with_reducible rfl)
    simp only [Act.put, List.setIfInBounds_toArray, List.set_cons_zero, List.set_cons_succ]
    refine wpAnyH_ready (rs := [14]) (by kernel_rfl) (by simp) ?_
    refine AllReadyH.cons (o := { dst := some 54, op := Op.box 57 (Operand.tmp 53), type := 58, pos := "inplace.go:27", after := #[{ on := 13, ground := Ground.data }], guard := none }) rfl (fun KK hKK => ?_) AllReadyH.nil
    go_simp
    have d6a : (w2.alloc (.cells #[.pointer (some ⟨q, 0, none⟩), .string (BA (endL word)), .bool false] 57)).cell? ⟨b, 6, none⟩ = some (.slice ua ks.length uc) := ((unhide H2).rdr.blk.alloc _).cell 6 (by simp)
    have y2 : (w2.alloc (.cells #[.pointer (some ⟨q, 0, none⟩), .string (BA (endL word)), .bool false] 57)).cell? ⟨q, 1, none⟩ = some (.string ⟨#[60, 60]⟩) := cell_alloc y1 _
    refine hKK.out _ _ (by assumption) (fun hHeld => ?_)
    clear hKK KK
    try simp only [Act.put, List.setIfInBounds_toArray, List.set_cons_zero, List.set_cons_succ]
    refine wpAnyH_ready (rs := [15]) (by kernel_rfl) (by simp) ?_
    refine AllReadyH.cons (o := { dst := some 55, op := Op.buildSlice 51 1 #[(0, Operand.tmp 54)], type := 51, pos := "inplace.go:27", after := #[{ on := 14, ground := Ground.data }], guard := none }) rfl (fun KK hKK => ?_) AllReadyH.nil
    go_simp
    have d6b : ((w2.alloc (.cells #[.pointer (some ⟨q, 0, none⟩), .string (BA (endL word)), .bool false] 57)).alloc (.cells #[.pointer (some ⟨w2.heap.size, 0, none⟩)] 58)).cell? ⟨b, 6, none⟩ = some (.slice ua ks.length uc) := (((unhide H2).rdr.blk.alloc _).alloc _).cell 6 (by simp)
    have y3 : ((w2.alloc (.cells #[.pointer (some ⟨q, 0, none⟩), .string (BA (endL word)), .bool false] 57)).alloc (.cells #[.pointer (some ⟨w2.heap.size, 0, none⟩)] 58)).cell? ⟨q, 1, none⟩ = some (.string ⟨#[60, 60]⟩) := cell_alloc y2 _
    refine hKK.out _ _ (by assumption) (fun hHeld => ?_)
    clear hKK KK
    try simp only [Act.put, List.setIfInBounds_toArray, List.set_cons_zero, List.set_cons_succ]
    refine wpAnyH_ready (rs := [16]) (by kernel_rfl) (by simp) ?_
    refine AllReadyH.cons (o := { dst := some 56, op := Op.call { callee := Callee.builtin Builtin.append, args := #[Operand.tmp 44, Operand.tmp 55], argTypes := #[51, 51] }, type := 51, pos := "inplace.go:27", after := #[{ on := 4, ground := Ground.data }, { on := 15, ground := Ground.data }, { on := 7, ground := Ground.chain }], guard := none }) rfl (fun KK hKK => ?_) AllReadyH.nil
    refine step_append_lies _ (by rfl) _ _ _ (by rfl) (b + 1) 58 i0 (.pointer none) 1 8 und_wts hi hz0 hz1 hz2 rfl (by decide) (.slice ua ks.length uc) ks.length (ptrs ks) (by simp [Act.eval]) (World.ownsRow.alloc (World.ownsRow.alloc (unhide H2).wts.row _) _) ⟨w2.heap.size + 1, 0, none⟩ 1 1 [.pointer (some ⟨w2.heap.size, 0, none⟩)] (by simp [Act.eval]) rfl ?_ ?_ (by decide) (by unfold maxLen; omega) (by omega) (by have := (unhide H2).rdr.blk.lt; simp; omega) (w2.heap.size + 2) (by simp) ?_
    · exact one_ptr2
    · intro x hx; simp at hx; subst hx; rfl
    intro gg cg w3 hown3 hgrow hat hlt3
    have hf := await_fin (unhide H2) hpi hown3 hgrow
    have y4 : w3.cell? ⟨q, 1, none⟩ = some (.string ⟨#[60, 60]⟩) := (tok_kept (unhide H2).wts.row ((unhide H2).toks.blk _ q _ hpi (unhide HTI)).2 hgrow).cell 1 (by rw [← unhide HTX]; rfl)
    have d7 := hf.1
    have d8 := hf.2.1
    have y5 : (w3.setCell ⟨b, 6, none⟩ (.slice (some ⟨gg, 0, none⟩) (ks.length + 1) cg)).cell? ⟨q, 1, none⟩ = some (.string ⟨#[60, 60]⟩) := by rw [World.cell?_of_block (Below.heap_setCell w3 ⟨b, 6, none⟩ _ q (by show q ≠ b; omega))]; exact y4
    have HF := hide hf.2.2
    clear hown3 hgrow hat hf
    refine hKK.out _ _ (by assumption) (fun hHeld => ?_)
    clear hKK KK
    try simp only [Act.put, List.setIfInBounds_toArray, List.set_cons_zero, List.set_cons_succ]
    refine wpAnyH_take (i := 17) (oi := { dst := some 57, op := Op.nilCheck (Operand.tmp 40), type := 0, pos := "inplace.go:27", after := #[{ on := 0, ground := Ground.data }, { on := 0, ground := Ground.phase }, { on := 1, ground := Ground.phase }, { on := 2, ground := Ground.phase }, { on := 3, ground := Ground.phase }, { on := 4, ground := Ground.phase }, { on := 5, ground := Ground.phase }, { on := 6, ground := Ground.phase }, { on := 7, ground := Ground.phase }, { on := 8, ground := Ground.phase }, { on := 9, ground := Ground.phase }, { on := 10, ground := Ground.phase }, { on := 11, ground := Ground.phase }, { on := 12, ground := Ground.phase }, { on := 13, ground := Ground.phase }, { on := 14, ground := Ground.phase }, { on := 15, ground := Ground.phase }, { on := 16, ground := Ground.phase }], guard := none }) (v := ?_) rfl (by kernel_rfl) (by kernel_rfl) (by kernel_rfl) (fun _ _ _ h => h) (Or.inl ⟨by rfl, ?_⟩) (by assumption) ?_
    rotate_left
    · intro w hSw; (try dsimp only at hSw); go_simp; (try with_reducible rfl)
    simp only [Act.put, List.setIfInBounds_toArray, List.set_cons_zero, List.set_cons_succ]
    refine wpAnyH_take (i := 18) (oi := { dst := some 58, op := Op.fieldAddr 53 (Operand.tmp 57) 2, type := 0, pos := "inplace.go:27", after := #[{ on := 17, ground := Ground.data }, { on := 0, ground := Ground.phase }, { on := 1, ground := Ground.phase }, { on := 2, ground := Ground.phase }, { on := 3, ground := Ground.phase }, { on := 4, ground := Ground.phase }, { on := 5, ground := Ground.phase }, { on := 6, ground := Ground.phase }, { on := 7, ground := Ground.phase }, { on := 8, ground := Ground.phase }, { on := 9, ground := Ground.phase }, { on := 10, ground := Ground.phase }, { on := 11, ground := Ground.phase }, { on := 12, ground := Ground.phase }, { on := 13, ground := Ground.phase }, { on := 14, ground := Ground.phase }, { on := 15, ground := Ground.phase }, { on := 16, ground := Ground.phase }], guard := none }) (v := ?_) rfl (by kernel_rfl) (by kernel_rfl) (by kernel_rfl) (fun _ _ _ h => h) (Or.inl ⟨by rfl, ?_⟩) (by assumption) ?_
    rotate_left
    · intro w hSw; (try dsimp only at hSw); go_simp; (try with_reducible rfl)
    simp only [Act.put, List.setIfInBounds_toArray, List.set_cons_zero, List.set_cons_succ]
    refine wpAnyH_ready (rs := [19]) (by kernel_rfl) (by simp) ?_
    refine AllReadyH.cons (o := { dst := none, op := Op.store 51 (Operand.tmp 58) (Operand.tmp 56), type := 0, pos := "inplace.go:27", after := #[{ on := 18, ground := Ground.data }, { on := 16, ground := Ground.data }, { on := 16, ground := Ground.chain }, { on := 0, ground := Ground.phase }, { on := 1, ground := Ground.phase }, { on := 2, ground := Ground.phase }, { on := 3, ground := Ground.phase }, { on := 4, ground := Ground.phase }, { on := 5, ground := Ground.phase }, { on := 6, ground := Ground.phase }, { on := 7, ground := Ground.phase }, { on := 8, ground := Ground.phase }, { on := 9, ground := Ground.phase }, { on := 10, ground := Ground.phase }, { on := 11, ground := Ground.phase }, { on := 12, ground := Ground.phase }, { on := 13, ground := Ground.phase }, { on := 14, ground := Ground.phase }, { on := 15, ground := Ground.phase }, { on := 16, ground := Ground.phase }], guard := none }) rfl (fun KK hKK => ?_) AllReadyH.nil
    go_simp
    refine hKK.out _ _ (by assumption) (fun hHeld => ?_)
    clear hKK KK
    try simp only [Act.put, List.setIfInBounds_toArray, List.set_cons_zero, List.set_cons_succ]
    clear hHeld
    refine wpAnyH_done (by kernel_rfl) ?_ _
    clear d7 d8
    go_wp2
    refine bodyPost_end (res0 rfl _ _) rfl ?_
    exact ⟨rfl, _, _, by rw [unhide HAW]; exact (unhide HF).1, (unhide HG0).trans ((unhide HG1).trans ((unhide HG2).trans (unhide HF).2))⟩
  · go_simp
    refine (unhide HE).mono ?_
    rintro e w2 ⟨rfl, bb2⟩
    have h2 := (unhide HU).below bb2 hbU
    have y1 : w2.cell? ⟨q, 1, none⟩ = some (.string ⟨#[60, 60]⟩) := (unhide HQ).2 w2 bb2
    have d6 : w2.cell? ⟨b, 6, none⟩ = some (.slice ua ks.length uc) := h2.rdr.blk.cell 6 (by simp)
    have HG2 := hide (grownS_of_below (S := fun y => b ≤ y) bb2)
    have H2 := hide h2
    clear h2 bb2 HE
    refine hKK.out _ _ (by assumption) (fun hHeld => ?_)
    clear hKK KK
    try simp only [Act.put, List.setIfInBounds_toArray, List.set_cons_zero, List.set_cons_succ]
    refine wpAnyH_take (i := 13) (oi := { dst := some 53, op := Op.build 57 #[(0, Operand.tmp 45), (1, Operand.tmp 47), (2, Operand.tmp 52)], type := 57, pos := "inplace.go:27", after := #[{ on := 5, ground := Ground.data }, { on := 7, ground := Ground.data }, { on := 12, ground := Ground.data }], guard := none }) (v := ?_) rfl (by kernel_rfl) (by kernel_rfl) (by kernel_rfl) (fun _ _ _ h => h) (Or.inl ⟨by rfl, ?_⟩) (by assumption) ?_
    rotate_left
    · intro w hSw; (try dsimp only at hSw); go_simp; (try with_reducible rfl)
    simp only [Act.put, List.setIfInBounds_toArray, List.set_cons_zero, List.set_cons_succ]
    refine wpAnyH_ready (rs := [4, 14]) (by kernel_rfl) (by simp) ?_
    refine AllReadyH.cons (o := { dst := some 44, op := Op.load 51 (Operand.tmp 43), type := 51, pos := "inplace.go:27", after := #[{ on := 3, ground := Ground.data }], guard := none }) rfl (fun KK hKK => ?_) (AllReadyH.cons (o := { dst := some 54, op := Op.box 57 (Operand.tmp 53), type := 58, pos := "inplace.go:27", after := #[{ on := 13, ground := Ground.data }], guard := none }) rfl (fun KK hKK => ?_) AllReadyH.nil)
    · go_simp
      refine hKK.out _ _ (by assumption) (fun hHeld => ?_)
      clear hKK KK
      try simp only [Act.put, List.setIfInBounds_toArray, List.set_cons_zero, List.set_cons_succ]
      refine wpAnyH_ready (rs := [14]) (by kernel_rfl) (by simp) ?_
      refine AllReadyH.cons (o := { dst := some 54, op := Op.box 57 (Operand.tmp 53), type := 58, pos := "inplace.go:27", after := #[{ on := 13, ground := Ground.data }], guard := none }) rfl (fun KK hKK => ?_) AllReadyH.nil
      go_simp
      have d6a : (w2.alloc (.cells #[.pointer (some ⟨q, 0, none⟩), .string (BA (endL word)), .bool false] 57)).cell? ⟨b, 6, none⟩ = some (.slice ua ks.length uc) := ((unhide H2).rdr.blk.alloc _).cell 6 (by simp)
      have y2 : (w2.alloc (.cells #[.pointer (some ⟨q, 0, none⟩), .string (BA (endL word)), .bool false] 57)).cell? ⟨q, 1, none⟩ = some (.string ⟨#[60, 60]⟩) := cell_alloc y1 _
      refine hKK.out _ _ (by assumption) (fun hHeld => ?_)
      clear hKK KK
      try simp only [Act.put, List.setIfInBounds_toArray, List.set_cons_zero, List.set_cons_succ]
      refine wpAnyH_ready (rs := [15]) (by kernel_rfl) (by simp) ?_
      refine AllReadyH.cons (o := { dst := some 55, op := Op.buildSlice 51 1 #[(0, Operand.tmp 54)], type := 51, pos := "inplace.go:27", after := #[{ on := 14, ground := Ground.data }], guard := none }) rfl (fun KK hKK => ?_) AllReadyH.nil
      go_simp
      have d6b : ((w2.alloc (.cells #[.pointer (some ⟨q, 0, none⟩), .string (BA (endL word)), .bool false] 57)).alloc (.cells #[.pointer (some ⟨w2.heap.size, 0, none⟩)] 58)).cell? ⟨b, 6, none⟩ = some (.slice ua ks.length uc) := (((unhide H2).rdr.blk.alloc _).alloc _).cell 6 (by simp)
      have y3 : ((w2.alloc (.cells #[.pointer (some ⟨q, 0, none⟩), .string (BA (endL word)), .bool false] 57)).alloc (.cells #[.pointer (some ⟨w2.heap.size, 0, none⟩)] 58)).cell? ⟨q, 1, none⟩ = some (.string ⟨#[60, 60]⟩) := cell_alloc y2 _
      refine hKK.out _ _ (by assumption) (fun hHeld => ?_)
      clear hKK KK
      try simp only [Act.put, List.setIfInBounds_toArray, List.set_cons_zero, List.set_cons_succ]
      refine wpAnyH_ready (rs := [16]) (by kernel_rfl) (by simp) ?_
      refine AllReadyH.cons (o := { dst := some 56, op := Op.call { callee := Callee.builtin Builtin.append, args := #[Operand.tmp 44, Operand.tmp 55], argTypes := #[51, 51] }, type := 51, pos := "inplace.go:27", after := #[{ on := 4, ground := Ground.data }, { on := 15, ground := Ground.data }, { on := 7, ground := Ground.chain }], guard := none }) rfl (fun KK hKK => ?_) AllReadyH.nil
      refine step_append_lies _ (by rfl) _ _ _ (by rfl) (b + 1) 58 i0 (.pointer none) 1 8 und_wts hi hz0 hz1 hz2 rfl (by decide) (.slice ua ks.length uc) ks.length (ptrs ks) (by simp [Act.eval]) (World.ownsRow.alloc (World.ownsRow.alloc (unhide H2).wts.row _) _) ⟨w2.heap.size + 1, 0, none⟩ 1 1 [.pointer (some ⟨w2.heap.size, 0, none⟩)] (by simp [Act.eval]) rfl ?_ ?_ (by decide) (by unfold maxLen; omega) (by omega) (by have := (unhide H2).rdr.blk.lt; simp; omega) (w2.heap.size + 2) (by simp) ?_
      · exact one_ptr2
      · intro x hx; simp at hx; subst hx; rfl
      intro gg cg w3 hown3 hgrow hat hlt3
      have hf := await_fin (unhide H2) hpi hown3 hgrow
      have y4 : w3.cell? ⟨q, 1, none⟩ = some (.string ⟨#[60, 60]⟩) := (tok_kept (unhide H2).wts.row ((unhide H2).toks.blk _ q _ hpi (unhide HTI)).2 hgrow).cell 1 (by rw [← unhide HTX]; rfl)
      have d7 := hf.1
      have d8 := hf.2.1
      have y5 : (w3.setCell ⟨b, 6, none⟩ (.slice (some ⟨gg, 0, none⟩) (ks.length + 1) cg)).cell? ⟨q, 1, none⟩ = some (.string ⟨#[60, 60]⟩) := by rw [World.cell?_of_block (Below.heap_setCell w3 ⟨b, 6, none⟩ _ q (by show q ≠ b; omega))]; exact y4
      have HF := hide hf.2.2
      clear hown3 hgrow hat hf
      refine hKK.out _ _ (by assumption) (fun hHeld => ?_)
      clear hKK KK
      try simp only [Act.put, List.setIfInBounds_toArray, List.set_cons_zero, List.set_cons_succ]
      refine wpAnyH_take (i := 17) (oi := { dst := some 57, op := Op.nilCheck (Operand.tmp 40), type := 0, pos := "inplace.go:27", after := #[{ on := 0, ground := Ground.data }, { on := 0, ground := Ground.phase }, { on := 1, ground := Ground.phase }, { on := 2, ground := Ground.phase }, { on := 3, ground := Ground.phase }, { on := 4, ground := Ground.phase }, { on := 5, ground := Ground.phase }, { on := 6, ground := Ground.phase }, { on := 7, ground := Ground.phase }, { on := 8, ground := Ground.phase }, { on := 9, ground := Ground.phase }, { on := 10, ground := Ground.phase }, { on := 11, ground := Ground.phase }, { on := 12, ground := Ground.phase }, { on := 13, ground := Ground.phase }, { on := 14, ground := Ground.phase }, { on := 15, ground := Ground.phase }, { on := 16, ground := Ground.phase }], guard := none }) (v := ?_) rfl (by kernel_rfl) (by kernel_rfl) (by kernel_rfl) (fun _ _ _ h => h) (Or.inl ⟨by rfl, ?_⟩) (by assumption) ?_
      rotate_left
      · intro w hSw; (try dsimp only at hSw); go_simp; (try with_reducible rfl)
      simp only [Act.put, List.setIfInBounds_toArray, List.set_cons_zero, List.set_cons_succ]
      refine wpAnyH_take (i := 18) (oi := { dst := some 58, op := Op.fieldAddr 53 (Operand.tmp 57) 2, type := 0, pos := "inplace.go:27", after := #[{ on := 17, ground := Ground.data }, { on := 0, ground := Ground.phase }, { on := 1, ground := Ground.phase }, { on := 2, ground := Ground.phase }, { on := 3, ground := Ground.phase }, { on := 4, ground := Ground.phase }, { on := 5, ground := Ground.phase }, { on := 6, ground := Ground.phase }, { on := 7, ground := Ground.phase }, { on := 8, ground := Ground.phase }, { on := 9, ground := Ground.phase }, { on := 10, ground := Ground.phase }, { on := 11, ground := Ground.phase }, { on := 12, ground := Ground.phase }, { on := 13, ground := Ground.phase }, { on := 14, ground := Ground.phase }, { on := 15, ground := Ground.phase }, { on := 16, ground := Ground.phase }], guard := none }) (v := ?_) rfl (by kernel_rfl) (by kernel_rfl) (by kernel_rfl) (fun _ _ _ h => h) (Or.inl ⟨by rfl, ?_⟩) (by assumption) ?_
      rotate_left
      · intro w hSw; (try dsimp only at hSw); go_simp; (try with_reducible rfl)
      simp only [Act.put, List.setIfInBounds_toArray, List.set_cons_zero, List.set_cons_succ]
      refine wpAnyH_ready (rs := [19]) (by kernel_rfl) (by simp) ?_
      refine AllReadyH.cons (o := { dst := none, op := Op.store 51 (Operand.tmp 58) (Operand.tmp 56), type := 0, pos := "inplace.go:27", after := #[{ on := 18, ground := Ground.data }, { on := 16, ground := Ground.data }, { on := 16, ground := Ground.chain }, { on := 0, ground := Ground.phase }, { on := 1, ground := Ground.phase }, { on := 2, ground := Ground.phase }, { on := 3, ground := Ground.phase }, { on := 4, ground := Ground.phase }, { on := 5, ground := Ground.phase }, { on := 6, ground := Ground.phase }, { on := 7, ground := Ground.phase }, { on := 8, ground := Ground.phase }, { on := 9, ground := Ground.phase }, { on := 10, ground := Ground.phase }, { on := 11, ground := Ground.phase }, { on := 12, ground := Ground.phase }, { on := 13, ground := Ground.phase }, { on := 14, ground := Ground.phase }, { on := 15, ground := Ground.phase }, { on := 16, ground := Ground.phase }], guard := none }) rfl (fun KK hKK => ?_) AllReadyH.nil
      go_simp
      refine hKK.out _ _ (by assumption) (fun hHeld => ?_)
      clear hKK KK
      try simp only [Act.put, List.setIfInBounds_toArray, List.set_cons_zero, List.set_cons_succ]
      clear hHeld
      refine wpAnyH_done (by kernel_rfl) ?_ _
      clear d7 d8
      go_wp2
      refine bodyPost_end (res0 rfl _ _) rfl ?_
      exact ⟨rfl, _, _, by rw [unhide HAW]; exact (unhide HF).1, (unhide HG0).trans ((unhide HG1).trans ((unhide HG2).trans (unhide HF).2))⟩
    · go_simp
      have d6a : (w2.alloc (.cells #[.pointer (some ⟨q, 0, none⟩), .string (BA (endL word)), .bool false] 57)).cell? ⟨b, 6, none⟩ = some (.slice ua ks.length uc) := ((unhide H2).rdr.blk.alloc _).cell 6 (by simp)
      have y2 : (w2.alloc (.cells #[.pointer (some ⟨q, 0, none⟩), .string (BA (endL word)), .bool false] 57)).cell? ⟨q, 1, none⟩ = some (.string ⟨#[60, 60]⟩) := cell_alloc y1 _
      refine hKK.out _ _ (by assumption) (fun hHeld => ?_)
      clear hKK KK
      try simp only [Act.put, List.setIfInBounds_toArray, List.set_cons_zero, List.set_cons_succ]
      refine wpAnyH_ready (rs := [4, 15]) (by kernel_rfl) (by simp) ?_
      refine AllReadyH.cons (o := { dst := some 44, op := Op.load 51 (Operand.tmp 43), type := 51, pos := "inplace.go:27", after := #[{ on := 3, ground := Ground.data }], guard := none }) rfl (fun KK hKK => ?_) (AllReadyH.cons (o := { dst := some 55, op := Op.buildSlice 51 1 #[(0, Operand.tmp 54)], type := 51, pos := "inplace.go:27", after := #[{ on := 14, ground := Ground.data }], guard := none }) rfl (fun KK hKK => ?_) AllReadyH.nil)
      · go_simp
        refine hKK.out _ _ (by assumption) (fun hHeld => ?_)
        clear hKK KK
        try simp only [Act.put, List.setIfInBounds_toArray, List.set_cons_zero, List.set_cons_succ]
        refine wpAnyH_ready (rs := [15]) (by kernel_rfl) (by simp) ?_
        refine AllReadyH.cons (o := { dst := some 55, op := Op.buildSlice 51 1 #[(0, Operand.tmp 54)], type := 51, pos := "inplace.go:27", after := #[{ on := 14, ground := Ground.data }], guard := none }) rfl (fun KK hKK => ?_) AllReadyH.nil
        go_simp
        have d6b : ((w2.alloc (.cells #[.pointer (some ⟨q, 0, none⟩), .string (BA (endL word)), .bool false] 57)).alloc (.cells #[.pointer (some ⟨w2.heap.size, 0, none⟩)] 58)).cell? ⟨b, 6, none⟩ = some (.slice ua ks.length uc) := (((unhide H2).rdr.blk.alloc _).alloc _).cell 6 (by simp)
        have y3 : ((w2.alloc (.cells #[.pointer (some ⟨q, 0, none⟩), .string (BA (endL word)), .bool false] 57)).alloc (.cells #[.pointer (some ⟨w2.heap.size, 0, none⟩)] 58)).cell? ⟨q, 1, none⟩ = some (.string ⟨#[60, 60]⟩) := cell_alloc y2 _
        refine hKK.out _ _ (by assumption) (fun hHeld => ?_)
        clear hKK KK
        try simp only [Act.put, List.setIfInBounds_toArray, List.set_cons_zero, List.set_cons_succ]
        refine wpAnyH_ready (rs := [16]) (by kernel_rfl) (by simp) ?_
        refine AllReadyH.cons (o := { dst := some 56, op := Op.call { callee := Callee.builtin Builtin.append, args := #[Operand.tmp 44, Operand.tmp 55], argTypes := #[51, 51] }, type := 51, pos := "inplace.go:27", after := #[{ on := 4, ground := Ground.data }, { on := 15, ground := Ground.data }, { on := 7, ground := Ground.chain }], guard := none }) rfl (fun KK hKK => ?_) AllReadyH.nil
        refine step_append_lies _ (by rfl) _ _ _ (by rfl) (b + 1) 58 i0 (.pointer none) 1 8 und_wts hi hz0 hz1 hz2 rfl (by decide) (.slice ua ks.length uc) ks.length (ptrs ks) (by simp [Act.eval]) (World.ownsRow.alloc (World.ownsRow.alloc (unhide H2).wts.row _) _) ⟨w2.heap.size + 1, 0, none⟩ 1 1 [.pointer (some ⟨w2.heap.size, 0, none⟩)] (by simp [Act.eval]) rfl ?_ ?_ (by decide) (by unfold maxLen; omega) (by omega) (by have := (unhide H2).rdr.blk.lt; simp; omega) (w2.heap.size + 2) (by simp) ?_
        · exact one_ptr2
        · intro x hx; simp at hx; subst hx; rfl
        intro gg cg w3 hown3 hgrow hat hlt3
        have hf := await_fin (unhide H2) hpi hown3 hgrow
        have y4 : w3.cell? ⟨q, 1, none⟩ = some (.string ⟨#[60, 60]⟩) := (tok_kept (unhide H2).wts.row ((unhide H2).toks.blk _ q _ hpi (unhide HTI)).2 hgrow).cell 1 (by rw [← unhide HTX]; rfl)
        have d7 := hf.1
        have d8 := hf.2.1
        have y5 : (w3.setCell ⟨b, 6, none⟩ (.slice (some ⟨gg, 0, none⟩) (ks.length + 1) cg)).cell? ⟨q, 1, none⟩ = some (.string ⟨#[60, 60]⟩) := by rw [World.cell?_of_block (Below.heap_setCell w3 ⟨b, 6, none⟩ _ q (by show q ≠ b; omega))]; exact y4
        have HF := hide hf.2.2
        clear hown3 hgrow hat hf
        refine hKK.out _ _ (by assumption) (fun hHeld => ?_)
        clear hKK KK
        try simp only [Act.put, List.setIfInBounds_toArray, List.set_cons_zero, List.set_cons_succ]
        refine wpAnyH_take (i := 17) (oi := { dst := some 57, op := Op.nilCheck (Operand.tmp 40), type := 0, pos := "inplace.go:27", after := #[{ on := 0, ground := Ground.data }, { on := 0, ground := Ground.phase }, { on := 1, ground := Ground.phase }, { on := 2, ground := Ground.phase }, { on := 3, ground := Ground.phase }, { on := 4, ground := Ground.phase }, { on := 5, ground := Ground.phase }, { on := 6, ground := Ground.phase }, { on := 7, ground := Ground.phase }, { on := 8, ground := Ground.phase }, { on := 9, ground := Ground.phase }, { on := 10, ground := Ground.phase }, { on := 11, ground := Ground.phase }, { on := 12, ground := Ground.phase }, { on := 13, ground := Ground.phase }, { on := 14, ground := Ground.phase }, { on := 15, ground := Ground.phase }, { on := 16, ground := Ground.phase }], guard := none }) (v := ?_) rfl (by kernel_rfl) (by kernel_rfl) (by kernel_rfl) (fun _ _ _ h => h) (Or.inl ⟨by rfl, ?_⟩) (by assumption) ?_
        rotate_left
        · intro w hSw; (try dsimp only at hSw); go_simp; (try with_reducible rfl)
        simp only [Act.put, List.setIfInBounds_toArray, List.set_cons_zero, List.set_cons_succ]
        refine wpAnyH_take (i := 18) (oi := { dst := some 58, op := Op.fieldAddr 53 (Operand.tmp 57) 2, type := 0, pos := "inplace.go:27", after := #[{ on := 17, ground := Ground.data }, { on := 0, ground := Ground.phase }, { on := 1, ground := Ground.phase }, { on := 2, ground := Ground.phase }, { on := 3, ground := Ground.phase }, { on := 4, ground := Ground.phase }, { on := 5, ground := Ground.phase }, { on := 6, ground := Ground.phase }, { on := 7, ground := Ground.phase }, { on := 8, ground := Ground.phase }, { on := 9, ground := Ground.phase }, { on := 10, ground := Ground.phase }, { on := 11, ground := Ground.phase }, { on := 12, ground := Ground.phase }, { on := 13, ground := Ground.phase }, { on := 14, ground := Ground.phase }, { on := 15, ground := Ground.phase }, { on := 16, ground := Ground.phase }], guard := none }) (v := ?_) rfl (by kernel_rfl) (by kernel_rfl) (by kernel_rfl) (fun _ _ _ h => h) (Or.inl ⟨by rfl, ?_⟩) (by assumption) ?_
        rotate_left
        · intro w hSw; (try dsimp only at hSw); go_simp; (try with_reducible rfl)
        simp only [Act.put, List.setIfInBounds_toArray, List.set_cons_zero, List.set_cons_succ]
        refine wpAnyH_ready (rs := [19]) (by kernel_rfl) (by simp) ?_
        refine AllReadyH.cons (o := { dst := none, op := Op.store 51 (Operand.tmp 58) (Operand.tmp 56), type := 0, pos := "inplace.go:27", after := #[{ on := 18, ground := Ground.data }, { on := 16, ground := Ground.data }, { on := 16, ground := Ground.chain }, { on := 0, ground := Ground.phase }, { on := 1, ground := Ground.phase }, { on := 2, ground := Ground.phase }, { on := 3, ground := Ground.phase }, { on := 4, ground := Ground.phase }, { on := 5, ground := Ground.phase }, { on := 6, ground := Ground.phase }, { on := 7, ground := Ground.phase }, { on := 8, ground := Ground.phase }, { on := 9, ground := Ground.phase }, { on := 10, ground := Ground.phase }, { on := 11, ground := Ground.phase }, { on := 12, ground := Ground.phase }, { on := 13, ground := Ground.phase }, { on := 14, ground := Ground.phase }, { on := 15, ground := Ground.phase }, { on := 16, ground := Ground.phase }], guard := none }) rfl (fun KK hKK => ?_) AllReadyH.nil
        go_simp
        refine hKK.out _ _ (by assumption) (fun hHeld => ?_)
        clear hKK KK
        try simp only [Act.put, List.setIfInBounds_toArray, List.set_cons_zero, List.set_cons_succ]
        clear hHeld
        refine wpAnyH_done (by kernel_rfl) ?_ _
        clear d7 d8
        go_wp2
        refine bodyPost_end (res0 rfl _ _) rfl ?_
        exact ⟨rfl, _, _, by rw [unhide HAW]; exact (unhide HF).1, (unhide HG0).trans ((unhide HG1).trans ((unhide HG2).trans (unhide HF).2))⟩
      · go_simp
        have d6b : ((w2.alloc (.cells #[.pointer (some ⟨q, 0, none⟩), .string (BA (endL word)), .bool false] 57)).alloc (.cells #[.pointer (some ⟨w2.heap.size, 0, none⟩)] 58)).cell? ⟨b, 6, none⟩ = some (.slice ua ks.length uc) := (((unhide H2).rdr.blk.alloc _).alloc _).cell 6 (by simp)
        have y3 : ((w2.alloc (.cells #[.pointer (some ⟨q, 0, none⟩), .string (BA (endL word)), .bool false] 57)).alloc (.cells #[.pointer (some ⟨w2.heap.size, 0, none⟩)] 58)).cell? ⟨q, 1, none⟩ = some (.string ⟨#[60, 60]⟩) := cell_alloc y2 _
        refine hKK.out _ _ (by assumption) (fun hHeld => ?_)
        clear hKK KK
        try simp only [Act.put, List.setIfInBounds_toArray, List.set_cons_zero, List.set_cons_succ]
        refine wpAnyH_ready (rs := [4]) (by kernel_rfl) (by simp) ?_
        refine AllReadyH.cons (o := { dst := some 44, op := Op.load 51 (Operand.tmp 43), type := 51, pos := "inplace.go:27", after := #[{ on := 3, ground := Ground.data }], guard := none }) rfl (fun KK hKK => ?_) AllReadyH.nil
        go_simp
        refine hKK.out _ _ (by assumption) (fun hHeld => ?_)
        clear hKK KK
        try simp only [Act.put, List.setIfInBounds_toArray, List.set_cons_zero, List.set_cons_succ]
        refine wpAnyH_ready (rs := [16]) (by kernel_rfl) (by simp) ?_
        refine AllReadyH.cons (o := { dst := some 56, op := Op.call { callee := Callee.builtin Builtin.append, args := #[Operand.tmp 44, Operand.tmp 55], argTypes := #[51, 51] }, type := 51, pos := "inplace.go:27", after := #[{ on := 4, ground := Ground.data }, { on := 15, ground := Ground.data }, { on := 7, ground := Ground.chain }], guard := none }) rfl (fun KK hKK => ?_) AllReadyH.nil
        refine step_append_lies _ (by rfl) _ _ _ (by rfl) (b + 1) 58 i0 (.pointer none) 1 8 und_wts hi hz0 hz1 hz2 rfl (by decide) (.slice ua ks.length uc) ks.length (ptrs ks) (by simp [Act.eval]) (World.ownsRow.alloc (World.ownsRow.alloc (unhide H2).wts.row _) _) ⟨w2.heap.size + 1, 0, none⟩ 1 1 [.pointer (some ⟨w2.heap.size, 0, none⟩)] (by simp [Act.eval]) rfl ?_ ?_ (by decide) (by unfold maxLen; omega) (by omega) (by have := (unhide H2).rdr.blk.lt; simp; omega) (w2.heap.size + 2) (by simp) ?_
        · exact one_ptr2
        · intro x hx; simp at hx; subst hx; rfl
        intro gg cg w3 hown3 hgrow hat hlt3
        have hf := await_fin (unhide H2) hpi hown3 hgrow
        have y4 : w3.cell? ⟨q, 1, none⟩ = some (.string ⟨#[60, 60]⟩) := (tok_kept (unhide H2).wts.row ((unhide H2).toks.blk _ q _ hpi (unhide HTI)).2 hgrow).cell 1 (by rw [← unhide HTX]; rfl)
        have d7 := hf.1
        have d8 := hf.2.1
        have y5 : (w3.setCell ⟨b, 6, none⟩ (.slice (some ⟨gg, 0, none⟩) (ks.length + 1) cg)).cell? ⟨q, 1, none⟩ = some (.string ⟨#[60, 60]⟩) := by rw [World.cell?_of_block (Below.heap_setCell w3 ⟨b, 6, none⟩ _ q (by show q ≠ b; omega))]; exact y4
        have HF := hide hf.2.2
        clear hown3 hgrow hat hf
        refine hKK.out _ _ (by assumption) (fun hHeld => ?_)
        clear hKK KK
        try simp only [Act.put, List.setIfInBounds_toArray, List.set_cons_zero, List.set_cons_succ]
        refine wpAnyH_take (i := 17) (oi := { dst := some 57, op := Op.nilCheck (Operand.tmp 40), type := 0, pos := "inplace.go:27", after := #[{ on := 0, ground := Ground.data }, { on := 0, ground := Ground.phase }, { on := 1, ground := Ground.phase }, { on := 2, ground := Ground.phase }, { on := 3, ground := Ground.phase }, { on := 4, ground := Ground.phase }, { on := 5, ground := Ground.phase }, { on := 6, ground := Ground.phase }, { on := 7, ground := Ground.phase }, { on := 8, ground := Ground.phase }, { on := 9, ground := Ground.phase }, { on := 10, ground := Ground.phase }, { on := 11, ground := Ground.phase }, { on := 12, ground := Ground.phase }, { on := 13, ground := Ground.phase }, { on := 14, ground := Ground.phase }, { on := 15, ground := Ground.phase }, { on := 16, ground := Ground.phase }], guard := none }) (v := ?_) rfl (by kernel_rfl) (by kernel_rfl) (by kernel_rfl) (fun _ _ _ h => h) (Or.inl ⟨by rfl, ?_⟩) (by assumption) ?_
        rotate_left
        · intro w hSw; (try dsimp only at hSw); go_simp; (try with_reducible rfl)
        simp only [Act.put, List.setIfInBounds_toArray, List.set_cons_zero, List.set_cons_succ]
        refine wpAnyH_take (i := 18) (oi := { dst := some 58, op := Op.fieldAddr 53 (Operand.tmp 57) 2, type := 0, pos := "inplace.go:27", after := #[{ on := 17, ground := Ground.data }, { on := 0, ground := Ground.phase }, { on := 1, ground := Ground.phase }, { on := 2, ground := Ground.phase }, { on := 3, ground := Ground.phase }, { on := 4, ground := Ground.phase }, { on := 5, ground := Ground.phase }, { on := 6, ground := Ground.phase }, { on := 7, ground := Ground.phase }, { on := 8, ground := Ground.phase }, { on := 9, ground := Ground.phase }, { on := 10, ground := Ground.phase }, { on := 11, ground := Ground.phase }, { on := 12, ground := Ground.phase }, { on := 13, ground := Ground.phase }, { on := 14, ground := Ground.phase }, { on := 15, ground := Ground.phase }, { on := 16, ground := Ground.phase }], guard := none }) (v := ?_) rfl (by kernel_rfl) (by kernel_rfl) (by kernel_rfl) (fun _ _ _ h => h) (Or.inl ⟨by rfl, ?_⟩) (by assumption) ?_
        rotate_left
        · intro w hSw; (try dsimp only at hSw); go_simp; (try with_reducible rfl)
        simp only [Act.put, List.setIfInBounds_toArray, List.set_cons_zero, List.set_cons_succ]
        refine wpAnyH_ready (rs := [19]) (by kernel_rfl) (by simp) ?_
        refine AllReadyH.cons (o := { dst := none, op := Op.store 51 (Operand.tmp 58) (Operand.tmp 56), type := 0, pos := "inplace.go:27", after := #[{ on := 18, ground := Ground.data }, { on := 16, ground := Ground.data }, { on := 16, ground := Ground.chain }, { on := 0, ground := Ground.phase }, { on := 1, ground := Ground.phase }, { on := 2, ground := Ground.phase }, { on := 3, ground := Ground.phase }, { on := 4, ground := Ground.phase }, { on := 5, ground := Ground.phase }, { on := 6, ground := Ground.phase }, { on := 7, ground := Ground.phase }, { on := 8, ground := Ground.phase }, { on := 9, ground := Ground.phase }, { on := 10, ground := Ground.phase }, { on := 11, ground := Ground.phase }, { on := 12, ground := Ground.phase }, { on := 13, ground := Ground.phase }, { on := 14, ground := Ground.phase }, { on := 15, ground := Ground.phase }, { on := 16, ground := Ground.phase }], guard := none }) rfl (fun KK hKK => ?_) AllReadyH.nil
        go_simp
        refine hKK.out _ _ (by assumption) (fun hHeld => ?_)
        clear hKK KK
        try simp only [Act.put, List.setIfInBounds_toArray, List.set_cons_zero, List.set_cons_succ]
        clear hHeld
        refine wpAnyH_done (by kernel_rfl) ?_ _
        clear d7 d8
        go_wp2
        refine bodyPost_end (res0 rfl _ _) rfl ?_
        exact ⟨rfl, _, _, by rw [unhide HAW]; exact (unhide HF).1, (unhide HG0).trans ((unhide HG1).trans ((unhide HG2).trans (unhide HF).2))⟩


set_option maxRecDepth 100000 in
set_option maxHeartbeats 40000000 in
theorem await_dash (w : World) (b : Nat) (v u : Value) (s : ByteArray) (r : Nat) (ps ks : List Nat) (st : LS) (word : List UInt8) (m : Int) (q : Nat) (t : Tok) (h : LexAt w b v u s r ps ks st) (hw : st.wait.length ≤ 100000) (hl : st.toks.length ≤ 100000) (hwd : word.length ≤ 100000) (hm : w.cell? ⟨1, 0, none⟩ = some (.int .i64 m)) (hb1 : 1 < b) (hp : ps[st.toks.length - 1]? = some q) (ht : st.toks[st.toks.length - 1]? = some t) (htx : t.text = ⟨#[60, 60, 45]⟩) :
    Calls Tryd.prog 54 #[.pointer (some ⟨b, 0, none⟩), .string (BA word)] w fun e w' => e = .returned (.tuple #[]) ∧ ∃ u' ks', LexAt w' b v u' s r ps ks' (awaitL st word) ∧ GrownS w w' (fun y => b ≤ y) := by
  obtain ⟨i0, hi, hz0, hz1, hz2⟩ := info_of info_wtp
  obtain ⟨n, hn⟩ : ∃ n, n = st.toks.length - 1 := ⟨_, rfl⟩
  have hlen1 : 0 < st.toks.length := by
    have := (List.getElem?_eq_some_iff.1 ht).1
    omega
  rw [← hn] at hp ht
  obtain ⟨B, hB⟩ : ∃ B, B = word.any (fun c => c == 92 || c == 39 || c == 34) := ⟨_, rfl⟩
  obtain ⟨st1, hst1⟩ : ∃ x : LS, x = { st with toks := st.toks.modify n (fun t => { t with raw := B }) } := ⟨_, rfl⟩
  have HAW : Hid (awaitL st word = { st1 with wait := st1.wait ++ [⟨n, endL word, true⟩] }) := hide (by
    unfold awaitL
    have hgl : st.toks.getLast? = some t := by rw [List.getLast?_eq_getElem?, ← hn]; exact ht
    rw [hgl]
    have e : t.text = BA [60, 60, 45] := by rw [htx]; rfl
    have e1 : (t.text = BA [60, 60] ∨ t.text = BA [60, 60, 45]) := by rw [e]; first | exact .inl rfl | exact .inr rfl
    simp only [e1, if_true, hst1, ← hn, ← hB]
    rw [e, show (BA [60, 60, 45] == BA [60, 60, 45]) = true from by decide])
  obtain ⟨hbq, hqb⟩ := h.toks.blk n q t hp ht
  obtain ⟨ad, cap, hv, hsh⟩ := ptr_shape h.toks.row rfl
  obtain ⟨g, hg0, hgl, hcg⟩ := hsh n q hp
  subst hg0
  have hpsl : ps.length = n + 1 := by rw [h.toks.len]; omega
  rw [hpsl] at hv
  subst hv
  obtain ⟨ua, uc, hu, _⟩ := ptr_shape h.wts.row rfl
  subst hu
  have hks : ks.length ≤ 100000 := by rw [h.wts.len]; exact hw
  have c5 : w.cell? ⟨b, 5, none⟩ = some (.slice (some ⟨g, 0, none⟩) (n + 1) cap) := h.rdr.blk.cell 5 (by simp)
  have q1 : w.cell? ⟨q, 1, none⟩ = some (.string ⟨#[60, 60, 45]⟩) := by rw [← htx]; exact hqb.cell 1 rfl
  have hnn : n + 1 ≤ 100000 := by omega
  have hwr : IntKind.i64.wrap (((n + 1 : Nat) : Int) - 1) = (n : Int) := by rw [IntKind.wrap_i64]; omega
  have hz : (((n + 1 : Nat) : Int) == 0) = false := by rw [beq_eq_false_iff_ne]; omega
  have hidx : (n : Int) < ((n + 1 : Nat) : Int) := by omega
  have hn0 : (0 : Int) ≤ (n : Int) := by omega
  have HH := hide h
  have HM := hide hm
  have HQB := hide hqb
  have HTT := hide ht
  have HPP := hide hp
  have HTX := hide htx
  have HST := hide hst1
  have HBB := hide hB
  have hbl := h.rdr.blk.lt
  clear h hm hqb ht hp htx hst1 hB hn hsh hgl hlen1 hpsl hl hw
  have HCA := hide (contains3_any word hwd)
  go_enter Tryd.func54, Tryd.ntmps54
  go_wp2_with fail
  go_quiet (fail)
  obtain ⟨wA, hwA⟩ : ∃ x, x = w.drewN nq := ⟨_, rfl⟩
  have gA : GrownS w wA (fun _ => False) := by rw [hwA]; exact GrownS.of (grown_drewN w nq) (by simp)
  have qA : wA.cell? ⟨q, 1, none⟩ = some (.string ⟨#[60, 60, 45]⟩) := by rw [hwA]; exact q1
  rw [← hwA]
  have BA0 : Below w.heap.size w wA := by rw [hwA]; exact below_drew w nq
  have HBA := hide BA0
  clear hwA c5 hcg gA BA0
  go_wp2_with fail
  refine (unhide HCA wA).mono ?_
  rintro en wB ⟨rfl, bB⟩
  rw [← unhide HBB]
  have hA := (unhide HH).below (unhide HBA) (Nat.le_refl _)
  have hBst := hA.below bB (Nat.le_refl _)
  have hqB := (unhide HQB).grownS (grownS_of_below (S := fun _ => False) (unhide HBA)) (fun e => e)
  have hqB := hqB.grownS (grownS_of_below (S := fun _ => False) bB) (fun e => e)
  have hC : LexAt (wB.setCell ⟨q, 4, none⟩ (.bool B)) b (.slice (some ⟨g, 0, none⟩) (n + 1) cap) (.slice ua ks.length uc) s r ps ks st1 := by
    have gq : GrownS wB (wB.setCell ⟨q, 4, none⟩ (.bool B)) (fun y => y = q) := GrownS.of (grown_setCell wB ⟨q, 4, none⟩ _) (fun x e => by simpa using e)
    refine ⟨?_, ?_, ?_, ?_, ?_⟩
    · rw [unhide HST]
      exact hBst.rdr.grownS gq (by show ¬ b = q; omega)
    · rw [unhide HST]
      exact hBst.toks.write (c := 4) (x := .bool B) (fun t => { t with raw := B }) (unhide HPP) (unhide HTT) rfl
    · rw [unhide HST]
      exact hBst.wts.past hBst.rdr.blk hqB (gq.mono (fun _ _ e => .inr e))
    · rw [unhide HST]; exact hBst.rest
    · rw [unhide HST]; exact hBst.zero
  have HG0 : Hid (GrownS w wB (fun y => b ≤ y)) := hide ((grownS_of_below (unhide HBA)).trans (grownS_of_below bB))
  have q4 : wB.cell? ⟨q, 4, none⟩ = some (.bool t.raw) := hqB.cell 4 rfl
  have z4 := hqB.frozen 4
  have HG1' : Hid (GrownS wB (wB.setCell ⟨q, 4, none⟩ (.bool B)) (fun y => b ≤ y)) := hide (GrownS.of (grown_setCell wB ⟨q, 4, none⟩ _) (fun x e => (show x = q by simpa using e) ▸ (by omega : b ≤ q)))
  have HC := hide hC
  clear hA hBst hqB hC bB qA
  go_wp2_with fail
  obtain ⟨wC, hwC⟩ : ∃ x, x = wB.setCell ⟨q, 4, none⟩ (.bool B) := ⟨_, rfl⟩
  rw [← hwC] at HC HG1'
  rw [← hwC]
  clear hwC q4 z4
  have d6 : wC.cell? ⟨b, 6, none⟩ = some (.slice ua ks.length uc) := (unhide HC).rdr.blk.cell 6 (by simp)
  have HTI : Hid (st1.toks[n]? = some { t with raw := B }) := hide (by rw [unhide HST]; simp [unhide HTT])
  have hpi := unhide HPP
  have hqC := ((unhide HC).toks.blk n q _ hpi (unhide HTI)).2
  have y0 : wC.cell? ⟨q, 1, none⟩ = some (.string ⟨#[60, 60, 45]⟩) := hqC.cell 1 (by rw [← unhide HTX]; rfl)
  have bU : Below wC.heap.size wC wC.drew := below_drew wC 1
  have hU := (unhide HC).below bU (Nat.le_refl _)
  have hbU : wC.drew.heap.size ≤ wC.drew.heap.size := Nat.le_refl _
  have HQ : Hid (True ∧ ∀ w2, Below wC.drew.heap.size wC.drew w2 → w2.cell? ⟨q, 1, none⟩ = some (.string ⟨#[60, 60, 45]⟩)) := hide ⟨trivial, fun w2 hb2 => by
    rw [World.cell?_of_block (hb2.block q (hqC.below bU hqC.lt).lt), World.cell?_of_block (bU.block q hqC.lt)]
    exact y0⟩
  have hmU : wC.drew.cell? ⟨1, 0, none⟩ = some (.int .i64 m) := by
    rw [World.cell?_of_block (bU.block 1 (by have := hqC.lt; omega)), World.cell?_of_block ((unhide HG1').block 1 (by have := (unhide HG0).size; omega) (by omega)), World.cell?_of_block ((unhide HG0).block 1 (by omega) (by omega))]
    exact unhide HM
  have HE := hide (endLine_any (BA word) m wC.drew (by rw [BA_size]; omega) hmU (by have := (hqC.below bU hqC.lt).lt; omega))
  have HU := hide hU
  have HG1 : Hid (GrownS wB wC.drew (fun y => b ≤ y)) := hide ((unhide HG1').trans (grownS_of_below bU))
  clear hU hqC bU hmU HG1'
  refine wp_region_held_drew (S := fun w' => w'.cell? ⟨q, 1, none⟩ = some (.string ⟨#[60, 60, 45]⟩)) (by kernel_rfl) (by assumption) (fun hHeld => ?_)
  refine wpAnyH_take (i := 0) (oi := { dst := some 40, op := Op.move (Operand.tmp 0), type := 75, pos := "inplace.go:27", after := #[], guard := none }) (v := ?_) rfl (by kernel_rfl) (by kernel_rfl) (by kernel_rfl) (fun _ _ _ h => h) (Or.inl ⟨by rfl, ?_⟩) (by assumption) ?_
  rotate_left
  · intro w hSw; (try dsimp only at hSw); go_simp; (try with_reducible rfl)
  simp only [Act.put, List.setIfInBounds_toArray, List.set_cons_zero, List.set_cons_succ]
  refine wpAnyH_take (i := 1) (oi := { dst := some 41, op := Op.move (Operand.tmp 0), type := 75, pos := "inplace.go:27", after := #[], guard := none }) (v := ?_) rfl (by kernel_rfl) (by kernel_rfl) (by kernel_rfl) (fun _ _ _ h => h) (Or.inl ⟨by rfl, ?_⟩) (by assumption) ?_
  rotate_left
  · intro w hSw; (try dsimp only at hSw); go_simp; (try with_reducible rfl)
  simp only [Act.put, List.setIfInBounds_toArray, List.set_cons_zero, List.set_cons_succ]
  refine wpAnyH_take (i := 2) (oi := { dst := some 42, op := Op.nilCheck (Operand.tmp 41), type := 0, pos := "inplace.go:27", after := #[{ on := 1, ground := Ground.data }], guard := none }) (v := ?_) rfl (by kernel_rfl) (by kernel_rfl) (by kernel_rfl) (fun _ _ _ h => h) (Or.inl ⟨by rfl, ?_⟩) (by assumption) ?_
  rotate_left
  · intro w hSw; (try dsimp only at hSw); go_simp; (try with_reducible rfl)
  simp only [Act.put, List.setIfInBounds_toArray, List.set_cons_zero, List.set_cons_succ]
  refine wpAnyH_take (i := 3) (oi := { dst := some 43, op := Op.fieldAddr 53 (Operand.tmp 42) 2, type := 0, pos := "inplace.go:27", after := #[{ on := 2, ground := Ground.data }], guard := none }) (v := ?_) rfl (by kernel_rfl) (by kernel_rfl) (by kernel_rfl) (fun _ _ _ h => h) (Or.inl ⟨by rfl, ?_⟩) (by assumption) ?_
  rotate_left
  · intro w hSw; (try dsimp only at hSw); go_simp; (try with_reducible rfl)
  simp only [Act.put, List.setIfInBounds_toArray, List.set_cons_zero, List.set_cons_succ]
  refine wpAnyH_take (i := 5) (oi := { dst := some 45, op := Op.move (Operand.tmp 4), type := 55, pos := "inplace.go:27", after := #[], guard := none }) (v := ?_) rfl (by kernel_rfl) (by kernel_rfl) (by kernel_rfl) (fun _ _ _ h => h) (Or.inl ⟨by rfl, ?_⟩) (by assumption) ?_
  rotate_left
  · intro w hSw; (try dsimp only at hSw); go_simp; (try with_reducible rfl)
  simp only [Act.put, List.setIfInBounds_toArray, List.set_cons_zero, List.set_cons_succ]
  refine wpAnyH_take (i := 6) (oi := { dst := some 46, op := Op.move (Operand.tmp 1), type := 9, pos := "inplace.go:27", after := #[], guard := none }) (v := ?_) rfl (by kernel_rfl) (by kernel_rfl) (by kernel_rfl) (fun _ _ _ h => h) (Or.inl ⟨by rfl, ?_⟩) (by assumption) ?_
  rotate_left
  · intro w hSw; (try dsimp only at hSw); go_simp; (try with_reducible rfl)
  simp only [Act.put, List.setIfInBounds_toArray, List.set_cons_zero, List.set_cons_succ]
  refine wpAnyH_take (i := 8) (oi := { dst := some 48, op := Op.move (Operand.tmp 4), type := 55, pos := "inplace.go:27", after := #[], guard := none }) (v := ?_) rfl (by kernel_rfl) (by kernel_rfl) (by kernel_rfl) (fun _ _ _ h => h) (Or.inl ⟨by rfl, ?_⟩) (by assumption) ?_
  rotate_left
  · intro w hSw; (try dsimp only at hSw); go_simp; (try with_reducible rfl)
  simp only [Act.put, List.setIfInBounds_toArray, List.set_cons_zero, List.set_cons_succ]
  refine wpAnyH_take (i := 9) (oi := { dst := some 49, op := Op.nilCheck (Operand.tmp 48), type := 0, pos := "inplace.go:27", after := #[{ on := 8, ground := Ground.data }], guard := none }) (v := ?_) rfl (by kernel_rfl) (by kernel_rfl) (by kernel_rfl) (fun _ _ _ h => h) (Or.inl ⟨by rfl, ?_⟩) (by assumption) ?_
  rotate_left
  · intro w hSw; (try dsimp only at hSw); go_simp; (try with_reducible rfl)
  simp only [Act.put, List.setIfInBounds_toArray, List.set_cons_zero, List.set_cons_succ]
  refine wpAnyH_take (i := 10) (oi := { dst := some 50, op := Op.fieldAddr 37 (Operand.tmp 49) 1, type := 0, pos := "inplace.go:27", after := #[{ on := 9, ground := Ground.data }], guard := none }) (v := ?_) rfl (by kernel_rfl) (by kernel_rfl) (by kernel_rfl) (fun _ _ _ h => h) (Or.inl ⟨by rfl, ?_⟩) (by assumption) ?_
  rotate_left
  · intro w hSw; (try dsimp only at hSw); go_simp; (try with_reducible rfl)
  simp only [Act.put, List.setIfInBounds_toArray, List.set_cons_zero, List.set_cons_succ]
  refine wpAnyH_take (i := 11) (oi := { dst := some 51, op := Op.load 9 (Operand.tmp 50), type := 9, pos := "inplace.go:27", after := #[{ on := 10, ground := Ground.data }], guard := none }) (v := ?_) rfl (by kernel_rfl) (by kernel_rfl) (by kernel_rfl) (fun _ _ _ h => h) (Or.inl ⟨by rfl, ?_⟩) (by assumption) ?_
  rotate_left
  · intro w hSw; (try dsimp only at hSw); go_simp; (try with_reducible rfl)
  simp only [Act.put, List.setIfInBounds_toArray, List.set_cons_zero, List.set_cons_succ]
  refine wpAnyH_take (i := 12) (oi := { dst := some 52, op := Op.binOp BinOp.eql 9 (Operand.tmp 51) (Operand.const (Value.string { data := #[60, 60, 45] })) 9, type := 4, pos := "inplace.go:27", after := #[{ on := 11, ground := Ground.data }], guard := none }) (v := ?_) rfl (by kernel_rfl) (by kernel_rfl) (by kernel_rfl) (fun _ _ _ h => h) (Or.inl ⟨by rfl, ?_⟩) (by assumption) ?_
  rotate_left
  · intro w hSw; (try dsimp only at hSw); go_simp; (try with_reducible rfl)
  simp only [Act.put, List.setIfInBounds_toArray, List.set_cons_zero, List.set_cons_succ]
  refine wpAnyH_ready (rs := [4, 7]) (by kernel_rfl) (by simp) ?_
  refine AllReadyH.cons (o := { dst := some 44, op := Op.load 51 (Operand.tmp 43), type := 51, pos := "inplace.go:27", after := #[{ on := 3, ground := Ground.data }], guard := none }) rfl (fun KK hKK => ?_) (AllReadyH.cons (o := { dst := some 47, op := Op.call { callee := Callee.value (Operand.func 65), args := #[Operand.tmp 46], argTypes := #[9] }, type := 9, pos := "inplace.go:27", after := #[{ on := 6, ground := Ground.data }], guard := none }) rfl (fun KK hKK => ?_) AllReadyH.nil)
  · go_simp
    refine hKK.out _ _ (by assumption) (fun hHeld => ?_)
    clear hKK KK
    try simp only [Act.put, List.setIfInBounds_toArray, List.set_cons_zero, List.set_cons_succ]
    refine wpAnyH_ready (rs := [7]) (by kernel_rfl) (by simp) ?_
    refine AllReadyH.cons (o := { dst := some 47, op := Op.call { callee := Callee.value (Operand.func 65), args := #[Operand.tmp 46], argTypes := #[9] }, type := 9, pos := "inplace.go:27", after := #[{ on := 6, ground := Ground.data }], guard := none }) rfl (fun KK hKK => ?_) AllReadyH.nil
    go_simp
    refine (unhide HE).mono ?_
    rintro e w2 ⟨rfl, bb2⟩
    have h2 := (unhide HU).below bb2 hbU
    have y1 : w2.cell? ⟨q, 1, none⟩ = some (.string ⟨#[60, 60, 45]⟩) := (unhide HQ).2 w2 bb2
    have d6 : w2.cell? ⟨b, 6, none⟩ = some (.slice ua ks.length uc) := h2.rdr.blk.cell 6 (by simp)
    have HG2 := hide (grownS_of_below (S := fun y => b ≤ y) bb2)
    have H2 := hide h2
    clear h2 bb2 HE
    refine hKK.out _ _ (by assumption) (fun hHeld => ?_)
    clear hKK KK
    try simp only [Act.put, List.setIfInBounds_toArray, List.set_cons_zero, List.set_cons_succ]
    refine wpAnyH_take (i := 13) (oi := { dst := some 53, op := Op.build 57 #[(0, Operand.tmp 45), (1, Operand.tmp 47), (2, Operand.tmp 52)], type := 57, pos := "inplace.go:27", after := #[{ on := 5, ground := Ground.data }, { on := 7, ground := Ground.data }, { on := 12, ground := Ground.data }], guard := none }) (v := ?_) rfl (by kernel_rfl) (by kernel_rfl) (by kernel_rfl) (fun _ _ _ h => h) (Or.inl ⟨by rfl, ?_⟩) (by assumption) ?_
    rotate_left
    · intro w hSw; (try dsimp only at hSw); go_simp; (try with_reducible rfl)
    simp only [Act.put, List.setIfInBounds_toArray, List.set_cons_zero, List.set_cons_succ]
    refine wpAnyH_ready (rs := [14]) (by kernel_rfl) (by simp) ?_
    refine AllReadyH.cons (o := { dst := some 54, op := Op.box 57 (Operand.tmp 53), type := 58, pos := "inplace.go:27", after := #[{ on := 13, ground := Ground.data }], guard := none }) rfl (fun KK hKK => ?_) AllReadyH.nil
    go_simp
    have d6a : (w2.alloc (.cells #[.pointer (some ⟨q, 0, none⟩), .string (BA (endL word)), .bool true] 57)).cell? ⟨b, 6, none⟩ = some (.slice ua ks.length uc) := ((unhide H2).rdr.blk.alloc _).cell 6 (by simp)
    have y2 : (w2.alloc (.cells #[.pointer (some ⟨q, 0, none⟩), .string (BA (endL word)), .bool true] 57)).cell? ⟨q, 1, none⟩ = some (.string ⟨#[60, 60, 45]⟩) := cell_alloc y1 _
    refine hKK.out _ _ (by assumption) (fun hHeld => ?_)
    clear hKK KK
    try simp only [Act.put, List.setIfInBounds_toArray, List.set_cons_zero, List.set_cons_succ]
    refine wpAnyH_ready (rs := [15]) (by kernel_rfl) (by simp) ?_
    refine AllReadyH.cons (o := { dst := some 55, op := Op.buildSlice 51 1 #[(0, Operand.tmp 54)], type := 51, pos := "inplace.go:27", after := #[{ on := 14, ground := Ground.data }], guard := none }) rfl (fun KK hKK => ?_) AllReadyH.nil
    go_simp
    have d6b : ((w2.alloc (.cells #[.pointer (some ⟨q, 0, none⟩), .string (BA (endL word)), .bool true] 57)).alloc (.cells #[.pointer (some ⟨w2.heap.size, 0, none⟩)] 58)).cell? ⟨b, 6, none⟩ = some (.slice ua ks.length uc) := (((unhide H2).rdr.blk.alloc _).alloc _).cell 6 (by simp)
    have y3 : ((w2.alloc (.cells #[.pointer (some ⟨q, 0, none⟩), .string (BA (endL word)), .bool true] 57)).alloc (.cells #[.pointer (some ⟨w2.heap.size, 0, none⟩)] 58)).cell? ⟨q, 1, none⟩ = some (.string ⟨#[60, 60, 45]⟩) := cell_alloc y2 _
    refine hKK.out _ _ (by assumption) (fun hHeld => ?_)
    clear hKK KK
    try simp only [Act.put, List.setIfInBounds_toArray, List.set_cons_zero, List.set_cons_succ]
    refine wpAnyH_ready (rs := [16]) (by kernel_rfl) (by simp) ?_
    refine AllReadyH.cons (o := { dst := some 56, op := Op.call { callee := Callee.builtin Builtin.append, args := #[Operand.tmp 44, Operand.tmp 55], argTypes := #[51, 51] }, type := 51, pos := "inplace.go:27", after := #[{ on := 4, ground := Ground.data }, { on := 15, ground := Ground.data }, { on := 7, ground := Ground.chain }], guard := none }) rfl (fun KK hKK => ?_) AllReadyH.nil
    refine step_append_lies _ (by rfl) _ _ _ (by rfl) (b + 1) 58 i0 (.pointer none) 1 8 und_wts hi hz0 hz1 hz2 rfl (by decide) (.slice ua ks.length uc) ks.length (ptrs ks) (by simp [Act.eval]) (World.ownsRow.alloc (World.ownsRow.alloc (unhide H2).wts.row _) _) ⟨w2.heap.size + 1, 0, none⟩ 1 1 [.pointer (some ⟨w2.heap.size, 0, none⟩)] (by simp [Act.eval]) rfl ?_ ?_ (by decide) (by unfold maxLen; omega) (by omega) (by have := (unhide H2).rdr.blk.lt; simp; omega) (w2.heap.size + 2) (by simp) ?_
    · exact one_ptr2
    · intro x hx; simp at hx; subst hx; rfl
    intro gg cg w3 hown3 hgrow hat hlt3
    have hf := await_fin (unhide H2) hpi hown3 hgrow
    have y4 : w3.cell? ⟨q, 1, none⟩ = some (.string ⟨#[60, 60, 45]⟩) := (tok_kept (unhide H2).wts.row ((unhide H2).toks.blk _ q _ hpi (unhide HTI)).2 hgrow).cell 1 (by rw [← unhide HTX]; rfl)
    have d7 := hf.1
    have d8 := hf.2.1
    have y5 : (w3.setCell ⟨b, 6, none⟩ (.slice (some ⟨gg, 0, none⟩) (ks.length + 1) cg)).cell? ⟨q, 1, none⟩ = some (.string ⟨#[60, 60, 45]⟩) := by rw [World.cell?_of_block (Below.heap_setCell w3 ⟨b, 6, none⟩ _ q (by show q ≠ b; omega))]; exact y4
    have HF := hide hf.2.2
    clear hown3 hgrow hat hf
    refine hKK.out _ _ (by assumption) (fun hHeld => ?_)
    clear hKK KK
    try simp only [Act.put, List.setIfInBounds_toArray, List.set_cons_zero, List.set_cons_succ]
    refine wpAnyH_take (i := 17) (oi := { dst := some 57, op := Op.nilCheck (Operand.tmp 40), type := 0, pos := "inplace.go:27", after := #[{ on := 0, ground := Ground.data }, { on := 0, ground := Ground.phase }, { on := 1, ground := Ground.phase }, { on := 2, ground := Ground.phase }, { on := 3, ground := Ground.phase }, { on := 4, ground := Ground.phase }, { on := 5, ground := Ground.phase }, { on := 6, ground := Ground.phase }, { on := 7, ground := Ground.phase }, { on := 8, ground := Ground.phase }, { on := 9, ground := Ground.phase }, { on := 10, ground := Ground.phase }, { on := 11, ground := Ground.phase }, { on := 12, ground := Ground.phase }, { on := 13, ground := Ground.phase }, { on := 14, ground := Ground.phase }, { on := 15, ground := Ground.phase }, { on := 16, ground := Ground.phase }], guard := none }) (v := ?_) rfl (by kernel_rfl) (by kernel_rfl) (by kernel_rfl) (fun _ _ _ h => h) (Or.inl ⟨by rfl, ?_⟩) (by assumption) ?_
    rotate_left
    · intro w hSw; (try dsimp only at hSw); go_simp; (try with_reducible rfl)
    simp only [Act.put, List.setIfInBounds_toArray, List.set_cons_zero, List.set_cons_succ]
    refine wpAnyH_take (i := 18) (oi := { dst := some 58, op := Op.fieldAddr 53 (Operand.tmp 57) 2, type := 0, pos := "inplace.go:27", after := #[{ on := 17, ground := Ground.data }, { on := 0, ground := Ground.phase }, { on := 1, ground := Ground.phase }, { on := 2, ground := Ground.phase }, { on := 3, ground := Ground.phase }, { on := 4, ground := Ground.phase }, { on := 5, ground := Ground.phase }, { on := 6, ground := Ground.phase }, { on := 7, ground := Ground.phase }, { on := 8, ground := Ground.phase }, { on := 9, ground := Ground.phase }, { on := 10, ground := Ground.phase }, { on := 11, ground := Ground.phase }, { on := 12, ground := Ground.phase }, { on := 13, ground := Ground.phase }, { on := 14, ground := Ground.phase }, { on := 15, ground := Ground.phase }, { on := 16, ground := Ground.phase }], guard := none }) (v := ?_) rfl (by kernel_rfl) (by kernel_rfl) (by kernel_rfl) (fun _ _ _ h => h) (Or.inl ⟨by rfl, ?_⟩) (by assumption) ?_
    rotate_left
    · intro w hSw; (try dsimp only at hSw); go_simp; (try with_reducible rfl)
    simp only [Act.put, List.setIfInBounds_toArray, List.set_cons_zero, List.set_cons_succ]
    refine wpAnyH_ready (rs := [19]) (by kernel_rfl) (by simp) ?_
    refine AllReadyH.cons (o := { dst := none, op := Op.store 51 (Operand.tmp 58) (Operand.tmp 56), type := 0, pos := "inplace.go:27", after := #[{ on := 18, ground := Ground.data }, { on := 16, ground := Ground.data }, { on := 16, ground := Ground.chain }, { on := 0, ground := Ground.phase }, { on := 1, ground := Ground.phase }, { on := 2, ground := Ground.phase }, { on := 3, ground := Ground.phase }, { on := 4, ground := Ground.phase }, { on := 5, ground := Ground.phase }, { on := 6, ground := Ground.phase }, { on := 7, ground := Ground.phase }, { on := 8, ground := Ground.phase }, { on := 9, ground := Ground.phase }, { on := 10, ground := Ground.phase }, { on := 11, ground := Ground.phase }, { on := 12, ground := Ground.phase }, { on := 13, ground := Ground.phase }, { on := 14, ground := Ground.phase }, { on := 15, ground := Ground.phase }, { on := 16, ground := Ground.phase }], guard := none }) rfl (fun KK hKK => ?_) AllReadyH.nil
    go_simp
    refine hKK.out _ _ (by assumption) (fun hHeld => ?_)
    clear hKK KK
    try simp only [Act.put, List.setIfInBounds_toArray, List.set_cons_zero, List.set_cons_succ]
    clear hHeld
    refine wpAnyH_done (by kernel_rfl) ?_ _
    clear d7 d8
    go_wp2
    refine bodyPost_end (res0 rfl _ _) rfl ?_
    exact ⟨rfl, _, _, by rw [unhide HAW]; exact (unhide HF).1, (unhide HG0).trans ((unhide HG1).trans ((unhide HG2).trans (unhide HF).2))⟩
  · go_simp
    refine (unhide HE).mono ?_
    rintro e w2 ⟨rfl, bb2⟩
    have h2 := (unhide HU).below bb2 hbU
    have y1 : w2.cell? ⟨q, 1, none⟩ = some (.string ⟨#[60, 60, 45]⟩) := (unhide HQ).2 w2 bb2
    have d6 : w2.cell? ⟨b, 6, none⟩ = some (.slice ua ks.length uc) := h2.rdr.blk.cell 6 (by simp)
    have HG2 := hide (grownS_of_below (S := fun y => b ≤ y) bb2)
    have H2 := hide h2
    clear h2 bb2 HE
    refine hKK.out _ _ (by assumption) (fun hHeld => ?_)
    clear hKK KK
    try simp only [Act.put, List.setIfInBounds_toArray, List.set_cons_zero, List.set_cons_succ]
    refine wpAnyH_take (i := 13) (oi := { dst := some 53, op := Op.build 57 #[(0, Operand.tmp 45), (1, Operand.tmp 47), (2, Operand.tmp 52)], type := 57, pos := "inplace.go:27", after := #[{ on := 5, ground := Ground.data }, { on := 7, ground := Ground.data }, { on := 12, ground := Ground.data }], guard := none }) (v := ?_) rfl (by kernel_rfl) (by kernel_rfl) (by kernel_rfl) (fun _ _ _ h => h) (Or.inl ⟨by rfl, ?_⟩) (by assumption) ?_
    rotate_left
    · intro w hSw; (try dsimp only at hSw); go_simp; (try with_reducible rfl)
    simp only [Act.put, List.setIfInBounds_toArray, List.set_cons_zero, List.set_cons_succ]
    refine wpAnyH_ready (rs := [4, 14]) (by kernel_rfl) (by simp) ?_
    refine AllReadyH.cons (o := { dst := some 44, op := Op.load 51 (Operand.tmp 43), type := 51, pos := "inplace.go:27", after := #[{ on := 3, ground := Ground.data }], guard := none }) rfl (fun KK hKK => ?_) (AllReadyH.cons (o := { dst := some 54, op := Op.box 57 (Operand.tmp 53), type := 58, pos := "inplace.go:27", after := #[{ on := 13, ground := Ground.data }], guard := none }) rfl (fun KK hKK => ?_) AllReadyH.nil)
    · go_simp
      refine hKK.out _ _ (by assumption) (fun hHeld => ?_)
      clear hKK KK
      try simp only [Act.put, List.setIfInBounds_toArray, List.set_cons_zero, List.set_cons_succ]
      refine wpAnyH_ready (rs := [14]) (by kernel_rfl) (by simp) ?_
      refine AllReadyH.cons (o := { dst := some 54, op := Op.box 57 (Operand.tmp 53), type := 58, pos := "inplace.go:27", after := #[{ on := 13, ground := Ground.data }], guard := none }) rfl (fun KK hKK => ?_) AllReadyH.nil
      go_simp
      have d6a : (w2.alloc (.cells #[.pointer (some ⟨q, 0, none⟩), .string (BA (endL word)), .bool true] 57)).cell? ⟨b, 6, none⟩ = some (.slice ua ks.length uc) := ((unhide H2).rdr.blk.alloc _).cell 6 (by simp)
      have y2 : (w2.alloc (.cells #[.pointer (some ⟨q, 0, none⟩), .string (BA (endL word)), .bool true] 57)).cell? ⟨q, 1, none⟩ = some (.string ⟨#[60, 60, 45]⟩) := cell_alloc y1 _
      refine hKK.out _ _ (by assumption) (fun hHeld => ?_)
      clear hKK KK
      try simp only [Act.put, List.setIfInBounds_toArray, List.set_cons_zero, List.set_cons_succ]
      refine wpAnyH_ready (rs := [15]) (by kernel_rfl) (by simp) ?_
      refine AllReadyH.cons (o := { dst := some 55, op := Op.buildSlice 51 1 #[(0, Operand.tmp 54)], type := 51, pos := "inplace.go:27", after := #[{ on := 14, ground := Ground.data }], guard := none }) rfl (fun KK hKK => ?_) AllReadyH.nil
      go_simp
      have d6b : ((w2.alloc (.cells #[.pointer (some ⟨q, 0, none⟩), .string (BA (endL word)), .bool true] 57)).alloc (.cells #[.pointer (some ⟨w2.heap.size, 0, none⟩)] 58)).cell? ⟨b, 6, none⟩ = some (.slice ua ks.length uc) := (((unhide H2).rdr.blk.alloc _).alloc _).cell 6 (by simp)
      have y3 : ((w2.alloc (.cells #[.pointer (some ⟨q, 0, none⟩), .string (BA (endL word)), .bool true] 57)).alloc (.cells #[.pointer (some ⟨w2.heap.size, 0, none⟩)] 58)).cell? ⟨q, 1, none⟩ = some (.string ⟨#[60, 60, 45]⟩) := cell_alloc y2 _
      refine hKK.out _ _ (by assumption) (fun hHeld => ?_)
      clear hKK KK
      try simp only [Act.put, List.setIfInBounds_toArray, List.set_cons_zero, List.set_cons_succ]
      refine wpAnyH_ready (rs := [16]) (by kernel_rfl) (by simp) ?_
      refine AllReadyH.cons (o := { dst := some 56, op := Op.call { callee := Callee.builtin Builtin.append, args := #[Operand.tmp 44, Operand.tmp 55], argTypes := #[51, 51] }, type := 51, pos := "inplace.go:27", after := #[{ on := 4, ground := Ground.data }, { on := 15, ground := Ground.data }, { on := 7, ground := Ground.chain }], guard := none }) rfl (fun KK hKK => ?_) AllReadyH.nil
      refine step_append_lies _ (by rfl) _ _ _ (by rfl) (b + 1) 58 i0 (.pointer none) 1 8 und_wts hi hz0 hz1 hz2 rfl (by decide) (.slice ua ks.length uc) ks.length (ptrs ks) (by simp [Act.eval]) (World.ownsRow.alloc (World.ownsRow.alloc (unhide H2).wts.row _) _) ⟨w2.heap.size + 1, 0, none⟩ 1 1 [.pointer (some ⟨w2.heap.size, 0, none⟩)] (by simp [Act.eval]) rfl ?_ ?_ (by decide) (by unfold maxLen; omega) (by omega) (by have := (unhide H2).rdr.blk.lt; simp; omega) (w2.heap.size + 2) (by simp) ?_
      · exact one_ptr2
      · intro x hx; simp at hx; subst hx; rfl
      intro gg cg w3 hown3 hgrow hat hlt3
      have hf := await_fin (unhide H2) hpi hown3 hgrow
      have y4 : w3.cell? ⟨q, 1, none⟩ = some (.string ⟨#[60, 60, 45]⟩) := (tok_kept (unhide H2).wts.row ((unhide H2).toks.blk _ q _ hpi (unhide HTI)).2 hgrow).cell 1 (by rw [← unhide HTX]; rfl)
      have d7 := hf.1
      have d8 := hf.2.1
      have y5 : (w3.setCell ⟨b, 6, none⟩ (.slice (some ⟨gg, 0, none⟩) (ks.length + 1) cg)).cell? ⟨q, 1, none⟩ = some (.string ⟨#[60, 60, 45]⟩) := by rw [World.cell?_of_block (Below.heap_setCell w3 ⟨b, 6, none⟩ _ q (by show q ≠ b; omega))]; exact y4
      have HF := hide hf.2.2
      clear hown3 hgrow hat hf
      refine hKK.out _ _ (by assumption) (fun hHeld => ?_)
      clear hKK KK
      try simp only [Act.put, List.setIfInBounds_toArray, List.set_cons_zero, List.set_cons_succ]
      refine wpAnyH_take (i := 17) (oi := { dst := some 57, op := Op.nilCheck (Operand.tmp 40), type := 0, pos := "inplace.go:27", after := #[{ on := 0, ground := Ground.data }, { on := 0, ground := Ground.phase }, { on := 1, ground := Ground.phase }, { on := 2, ground := Ground.phase }, { on := 3, ground := Ground.phase }, { on := 4, ground := Ground.phase }, { on := 5, ground := Ground.phase }, { on := 6, ground := Ground.phase }, { on := 7, ground := Ground.phase }, { on := 8, ground := Ground.phase }, { on := 9, ground := Ground.phase }, { on := 10, ground := Ground.phase }, { on := 11, ground := Ground.phase }, { on := 12, ground := Ground.phase }, { on := 13, ground := Ground.phase }, { on := 14, ground := Ground.phase }, { on := 15, ground := Ground.phase }, { on := 16, ground := Ground.phase }], guard := none }) (v := ?_) rfl (by kernel_rfl) (by kernel_rfl) (by kernel_rfl) (fun _ _ _ h => h) (Or.inl ⟨by rfl, ?_⟩) (by assumption) ?_
      rotate_left
      · intro w hSw; (try dsimp only at hSw); go_simp; (try with_reducible rfl)
      simp only [Act.put, List.setIfInBounds_toArray, List.set_cons_zero, List.set_cons_succ]
      refine wpAnyH_take (i := 18) (oi := { dst := some 58, op := Op.fieldAddr 53 (Operand.tmp 57) 2, type := 0, pos := "inplace.go:27", after := #[{ on := 17, ground := Ground.data }, { on := 0, ground := Ground.phase }, { on := 1, ground := Ground.phase }, { on := 2, ground := Ground.phase }, { on := 3, ground := Ground.phase }, { on := 4, ground := Ground.phase }, { on := 5, ground := Ground.phase }, { on := 6, ground := Ground.phase }, { on := 7, ground := Ground.phase }, { on := 8, ground := Ground.phase }, { on := 9, ground := Ground.phase }, { on := 10, ground := Ground.phase }, { on := 11, ground := Ground.phase }, { on := 12, ground := Ground.phase }, { on := 13, ground := Ground.phase }, { on := 14, ground := Ground.phase }, { on := 15, ground := Ground.phase }, { on := 16, ground := Ground.phase }], guard := none }) (v := ?_) rfl (by kernel_rfl) (by kernel_rfl) (by kernel_rfl) (fun _ _ _ h => h) (Or.inl ⟨by rfl, ?_⟩) (by assumption) ?_
      rotate_left
      · intro w hSw; (try dsimp only at hSw); go_simp; (try with_reducible rfl)
      simp only [Act.put, List.setIfInBounds_toArray, List.set_cons_zero, List.set_cons_succ]
      refine wpAnyH_ready (rs := [19]) (by kernel_rfl) (by simp) ?_
      refine AllReadyH.cons (o := { dst := none, op := Op.store 51 (Operand.tmp 58) (Operand.tmp 56), type := 0, pos := "inplace.go:27", after := #[{ on := 18, ground := Ground.data }, { on := 16, ground := Ground.data }, { on := 16, ground := Ground.chain }, { on := 0, ground := Ground.phase }, { on := 1, ground := Ground.phase }, { on := 2, ground := Ground.phase }, { on := 3, ground := Ground.phase }, { on := 4, ground := Ground.phase }, { on := 5, ground := Ground.phase }, { on := 6, ground := Ground.phase }, { on := 7, ground := Ground.phase }, { on := 8, ground := Ground.phase }, { on := 9, ground := Ground.phase }, { on := 10, ground := Ground.phase }, { on := 11, ground := Ground.phase }, { on := 12, ground := Ground.phase }, { on := 13, ground := Ground.phase }, { on := 14, ground := Ground.phase }, { on := 15, ground := Ground.phase }, { on := 16, ground := Ground.phase }], guard := none }) rfl (fun KK hKK => ?_) AllReadyH.nil
      go_simp
      refine hKK.out _ _ (by assumption) (fun hHeld => ?_)
      clear hKK KK
      try simp only [Act.put, List.setIfInBounds_toArray, List.set_cons_zero, List.set_cons_succ]
      clear hHeld
      refine wpAnyH_done (by kernel_rfl) ?_ _
      clear d7 d8
      go_wp2
      refine bodyPost_end (res0 rfl _ _) rfl ?_
      exact ⟨rfl, _, _, by rw [unhide HAW]; exact (unhide HF).1, (unhide HG0).trans ((unhide HG1).trans ((unhide HG2).trans (unhide HF).2))⟩
    · go_simp
      have d6a : (w2.alloc (.cells #[.pointer (some ⟨q, 0, none⟩), .string (BA (endL word)), .bool true] 57)).cell? ⟨b, 6, none⟩ = some (.slice ua ks.length uc) := ((unhide H2).rdr.blk.alloc _).cell 6 (by simp)
      have y2 : (w2.alloc (.cells #[.pointer (some ⟨q, 0, none⟩), .string (BA (endL word)), .bool true] 57)).cell? ⟨q, 1, none⟩ = some (.string ⟨#[60, 60, 45]⟩) := cell_alloc y1 _
      refine hKK.out _ _ (by assumption) (fun hHeld => ?_)
      clear hKK KK
      try simp only [Act.put, List.setIfInBounds_toArray, List.set_cons_zero, List.set_cons_succ]
      refine wpAnyH_ready (rs := [4, 15]) (by kernel_rfl) (by simp) ?_
      refine AllReadyH.cons (o := { dst := some 44, op := Op.load 51 (Operand.tmp 43), type := 51, pos := "inplace.go:27", after := #[{ on := 3, ground := Ground.data }], guard := none }) rfl (fun KK hKK => ?_) (AllReadyH.cons (o := { dst := some 55, op := Op.buildSlice 51 1 #[(0, Operand.tmp 54)], type := 51, pos := "inplace.go:27", after := #[{ on := 14, ground := Ground.data }], guard := none }) rfl (fun KK hKK => ?_) AllReadyH.nil)
      · go_simp
        refine hKK.out _ _ (by assumption) (fun hHeld => ?_)
        clear hKK KK
        try simp only [Act.put, List.setIfInBounds_toArray, List.set_cons_zero, List.set_cons_succ]
        refine wpAnyH_ready (rs := [15]) (by kernel_rfl) (by simp) ?_
        refine AllReadyH.cons (o := { dst := some 55, op := Op.buildSlice 51 1 #[(0, Operand.tmp 54)], type := 51, pos := "inplace.go:27", after := #[{ on := 14, ground := Ground.data }], guard := none }) rfl (fun KK hKK => ?_) AllReadyH.nil
        go_simp
        have d6b : ((w2.alloc (.cells #[.pointer (some ⟨q, 0, none⟩), .string (BA (endL word)), .bool true] 57)).alloc (.cells #[.pointer (some ⟨w2.heap.size, 0, none⟩)] 58)).cell? ⟨b, 6, none⟩ = some (.slice ua ks.length uc) := (((unhide H2).rdr.blk.alloc _).alloc _).cell 6 (by simp)
        have y3 : ((w2.alloc (.cells #[.pointer (some ⟨q, 0, none⟩), .string (BA (endL word)), .bool true] 57)).alloc (.cells #[.pointer (some ⟨w2.heap.size, 0, none⟩)] 58)).cell? ⟨q, 1, none⟩ = some (.string ⟨#[60, 60, 45]⟩) := cell_alloc y2 _
        refine hKK.out _ _ (by assumption) (fun hHeld => ?_)
        clear hKK KK
        try simp only [Act.put, List.setIfInBounds_toArray, List.set_cons_zero, List.set_cons_succ]
        refine wpAnyH_ready (rs := [16]) (by kernel_rfl) (by simp) ?_
        refine AllReadyH.cons (o := { dst := some 56, op := Op.call { callee := Callee.builtin Builtin.append, args := #[Operand.tmp 44, Operand.tmp 55], argTypes := #[51, 51] }, type := 51, pos := "inplace.go:27", after := #[{ on := 4, ground := Ground.data }, { on := 15, ground := Ground.data }, { on := 7, ground := Ground.chain }], guard := none }) rfl (fun KK hKK => ?_) AllReadyH.nil
        refine step_append_lies _ (by rfl) _ _ _ (by rfl) (b + 1) 58 i0 (.pointer none) 1 8 und_wts hi hz0 hz1 hz2 rfl (by decide) (.slice ua ks.length uc) ks.length (ptrs ks) (by simp [Act.eval]) (World.ownsRow.alloc (World.ownsRow.alloc (unhide H2).wts.row _) _) ⟨w2.heap.size + 1, 0, none⟩ 1 1 [.pointer (some ⟨w2.heap.size, 0, none⟩)] (by simp [Act.eval]) rfl ?_ ?_ (by decide) (by unfold maxLen; omega) (by omega) (by have := (unhide H2).rdr.blk.lt; simp; omega) (w2.heap.size + 2) (by simp) ?_
        · exact one_ptr2
        · intro x hx; simp at hx; subst hx; rfl
        intro gg cg w3 hown3 hgrow hat hlt3
        have hf := await_fin (unhide H2) hpi hown3 hgrow
        have y4 : w3.cell? ⟨q, 1, none⟩ = some (.string ⟨#[60, 60, 45]⟩) := (tok_kept (unhide H2).wts.row ((unhide H2).toks.blk _ q _ hpi (unhide HTI)).2 hgrow).cell 1 (by rw [← unhide HTX]; rfl)
        have d7 := hf.1
        have d8 := hf.2.1
        have y5 : (w3.setCell ⟨b, 6, none⟩ (.slice (some ⟨gg, 0, none⟩) (ks.length + 1) cg)).cell? ⟨q, 1, none⟩ = some (.string ⟨#[60, 60, 45]⟩) := by rw [World.cell?_of_block (Below.heap_setCell w3 ⟨b, 6, none⟩ _ q (by show q ≠ b; omega))]; exact y4
        have HF := hide hf.2.2
        clear hown3 hgrow hat hf
        refine hKK.out _ _ (by assumption) (fun hHeld => ?_)
        clear hKK KK
        try simp only [Act.put, List.setIfInBounds_toArray, List.set_cons_zero, List.set_cons_succ]
        refine wpAnyH_take (i := 17) (oi := { dst := some 57, op := Op.nilCheck (Operand.tmp 40), type := 0, pos := "inplace.go:27", after := #[{ on := 0, ground := Ground.data }, { on := 0, ground := Ground.phase }, { on := 1, ground := Ground.phase }, { on := 2, ground := Ground.phase }, { on := 3, ground := Ground.phase }, { on := 4, ground := Ground.phase }, { on := 5, ground := Ground.phase }, { on := 6, ground := Ground.phase }, { on := 7, ground := Ground.phase }, { on := 8, ground := Ground.phase }, { on := 9, ground := Ground.phase }, { on := 10, ground := Ground.phase }, { on := 11, ground := Ground.phase }, { on := 12, ground := Ground.phase }, { on := 13, ground := Ground.phase }, { on := 14, ground := Ground.phase }, { on := 15, ground := Ground.phase }, { on := 16, ground := Ground.phase }], guard := none }) (v := ?_) rfl (by kernel_rfl) (by kernel_rfl) (by kernel_rfl) (fun _ _ _ h => h) (Or.inl ⟨by rfl, ?_⟩) (by assumption) ?_
        rotate_left
        · intro w hSw; (try dsimp only at hSw); go_simp; (try with_reducible rfl)
        simp only [Act.put, List.setIfInBounds_toArray, List.set_cons_zero, List.set_cons_succ]
        refine wpAnyH_take (i := 18) (oi := { dst := some 58, op := Op.fieldAddr 53 (Operand.tmp 57) 2, type := 0, pos := "inplace.go:27", after := #[{ on := 17, ground := Ground.data }, { on := 0, ground := Ground.phase }, { on := 1, ground := Ground.phase }, { on := 2, ground := Ground.phase }, { on := 3, ground := Ground.phase }, { on := 4, ground := Ground.phase }, { on := 5, ground := Ground.phase }, { on := 6, ground := Ground.phase }, { on := 7, ground := Ground.phase }, { on := 8, ground := Ground.phase }, { on := 9, ground := Ground.phase }, { on := 10, ground := Ground.phase }, { on := 11, ground := Ground.phase }, { on := 12, ground := Ground.phase }, { on := 13, ground := Ground.phase }, { on := 14, ground := Ground.phase }, { on := 15, ground := Ground.phase }, { on := 16, ground := Ground.phase }], guard := none }) (v := ?_) rfl (by kernel_rfl) (by kernel_rfl) (by kernel_rfl) (fun _ _ _ h => h) (Or.inl ⟨by rfl, ?_⟩) (by assumption) ?_
        rotate_left
        · intro w hSw; (try dsimp only at hSw); go_simp; (try with_reducible rfl)
        simp only [Act.put, List.setIfInBounds_toArray, List.set_cons_zero, List.set_cons_succ]
        refine wpAnyH_ready (rs := [19]) (by kernel_rfl) (by simp) ?_
        refine AllReadyH.cons (o := { dst := none, op := Op.store 51 (Operand.tmp 58) (Operand.tmp 56), type := 0, pos := "inplace.go:27", after := #[{ on := 18, ground := Ground.data }, { on := 16, ground := Ground.data }, { on := 16, ground := Ground.chain }, { on := 0, ground := Ground.phase }, { on := 1, ground := Ground.phase }, { on := 2, ground := Ground.phase }, { on := 3, ground := Ground.phase }, { on := 4, ground := Ground.phase }, { on := 5, ground := Ground.phase }, { on := 6, ground := Ground.phase }, { on := 7, ground := Ground.phase }, { on := 8, ground := Ground.phase }, { on := 9, ground := Ground.phase }, { on := 10, ground := Ground.phase }, { on := 11, ground := Ground.phase }, { on := 12, ground := Ground.phase }, { on := 13, ground := Ground.phase }, { on := 14, ground := Ground.phase }, { on := 15, ground := Ground.phase }, { on := 16, ground := Ground.phase }], guard := none }) rfl (fun KK hKK => ?_) AllReadyH.nil
        go_simp
        refine hKK.out _ _ (by assumption) (fun hHeld => ?_)
        clear hKK KK
        try simp only [Act.put, List.setIfInBounds_toArray, List.set_cons_zero, List.set_cons_succ]
        clear hHeld
        refine wpAnyH_done (by kernel_rfl) ?_ _
        clear d7 d8
        go_wp2
        refine bodyPost_end (res0 rfl _ _) rfl ?_
        exact ⟨rfl, _, _, by rw [unhide HAW]; exact (unhide HF).1, (unhide HG0).trans ((unhide HG1).trans ((unhide HG2).trans (unhide HF).2))⟩
      · go_simp
        have d6b : ((w2.alloc (.cells #[.pointer (some ⟨q, 0, none⟩), .string (BA (endL word)), .bool true] 57)).alloc (.cells #[.pointer (some ⟨w2.heap.size, 0, none⟩)] 58)).cell? ⟨b, 6, none⟩ = some (.slice ua ks.length uc) := (((unhide H2).rdr.blk.alloc _).alloc _).cell 6 (by simp)
        have y3 : ((w2.alloc (.cells #[.pointer (some ⟨q, 0, none⟩), .string (BA (endL word)), .bool true] 57)).alloc (.cells #[.pointer (some ⟨w2.heap.size, 0, none⟩)] 58)).cell? ⟨q, 1, none⟩ = some (.string ⟨#[60, 60, 45]⟩) := cell_alloc y2 _
        refine hKK.out _ _ (by assumption) (fun hHeld => ?_)
        clear hKK KK
        try simp only [Act.put, List.setIfInBounds_toArray, List.set_cons_zero, List.set_cons_succ]
        refine wpAnyH_ready (rs := [4]) (by kernel_rfl) (by simp) ?_
        refine AllReadyH.cons (o := { dst := some 44, op := Op.load 51 (Operand.tmp 43), type := 51, pos := "inplace.go:27", after := #[{ on := 3, ground := Ground.data }], guard := none }) rfl (fun KK hKK => ?_) AllReadyH.nil
        go_simp
        refine hKK.out _ _ (by assumption) (fun hHeld => ?_)
        clear hKK KK
        try simp only [Act.put, List.setIfInBounds_toArray, List.set_cons_zero, List.set_cons_succ]
        refine wpAnyH_ready (rs := [16]) (by kernel_rfl) (by simp) ?_
        refine AllReadyH.cons (o := { dst := some 56, op := Op.call { callee := Callee.builtin Builtin.append, args := #[Operand.tmp 44, Operand.tmp 55], argTypes := #[51, 51] }, type := 51, pos := "inplace.go:27", after := #[{ on := 4, ground := Ground.data }, { on := 15, ground := Ground.data }, { on := 7, ground := Ground.chain }], guard := none }) rfl (fun KK hKK => ?_) AllReadyH.nil
        refine step_append_lies _ (by rfl) _ _ _ (by rfl) (b + 1) 58 i0 (.pointer none) 1 8 und_wts hi hz0 hz1 hz2 rfl (by decide) (.slice ua ks.length uc) ks.length (ptrs ks) (by simp [Act.eval]) (World.ownsRow.alloc (World.ownsRow.alloc (unhide H2).wts.row _) _) ⟨w2.heap.size + 1, 0, none⟩ 1 1 [.pointer (some ⟨w2.heap.size, 0, none⟩)] (by simp [Act.eval]) rfl ?_ ?_ (by decide) (by unfold maxLen; omega) (by omega) (by have := (unhide H2).rdr.blk.lt; simp; omega) (w2.heap.size + 2) (by simp) ?_
        · exact one_ptr2
        · intro x hx; simp at hx; subst hx; rfl
        intro gg cg w3 hown3 hgrow hat hlt3
        have hf := await_fin (unhide H2) hpi hown3 hgrow
        have y4 : w3.cell? ⟨q, 1, none⟩ = some (.string ⟨#[60, 60, 45]⟩) := (tok_kept (unhide H2).wts.row ((unhide H2).toks.blk _ q _ hpi (unhide HTI)).2 hgrow).cell 1 (by rw [← unhide HTX]; rfl)
        have d7 := hf.1
        have d8 := hf.2.1
        have y5 : (w3.setCell ⟨b, 6, none⟩ (.slice (some ⟨gg, 0, none⟩) (ks.length + 1) cg)).cell? ⟨q, 1, none⟩ = some (.string ⟨#[60, 60, 45]⟩) := by rw [World.cell?_of_block (Below.heap_setCell w3 ⟨b, 6, none⟩ _ q (by show q ≠ b; omega))]; exact y4
        have HF := hide hf.2.2
        clear hown3 hgrow hat hf
        refine hKK.out _ _ (by assumption) (fun hHeld => ?_)
        clear hKK KK
        try simp only [Act.put, List.setIfInBounds_toArray, List.set_cons_zero, List.set_cons_succ]
        refine wpAnyH_take (i := 17) (oi := { dst := some 57, op := Op.nilCheck (Operand.tmp 40), type := 0, pos := "inplace.go:27", after := #[{ on := 0, ground := Ground.data }, { on := 0, ground := Ground.phase }, { on := 1, ground := Ground.phase }, { on := 2, ground := Ground.phase }, { on := 3, ground := Ground.phase }, { on := 4, ground := Ground.phase }, { on := 5, ground := Ground.phase }, { on := 6, ground := Ground.phase }, { on := 7, ground := Ground.phase }, { on := 8, ground := Ground.phase }, { on := 9, ground := Ground.phase }, { on := 10, ground := Ground.phase }, { on := 11, ground := Ground.phase }, { on := 12, ground := Ground.phase }, { on := 13, ground := Ground.phase }, { on := 14, ground := Ground.phase }, { on := 15, ground := Ground.phase }, { on := 16, ground := Ground.phase }], guard := none }) (v := ?_) rfl (by kernel_rfl) (by kernel_rfl) (by kernel_rfl) (fun _ _ _ h => h) (Or.inl ⟨by rfl, ?_⟩) (by assumption) ?_
        rotate_left
        · intro w hSw; (try dsimp only at hSw); go_simp; (try with_reducible rfl)
        simp only [Act.put, List.setIfInBounds_toArray, List.set_cons_zero, List.set_cons_succ]
        refine wpAnyH_take (i := 18) (oi := { dst := some 58, op := Op.fieldAddr 53 (Operand.tmp 57) 2, type := 0, pos := "inplace.go:27", after := #[{ on := 17, ground := Ground.data }, { on := 0, ground := Ground.phase }, { on := 1, ground := Ground.phase }, { on := 2, ground := Ground.phase }, { on := 3, ground := Ground.phase }, { on := 4, ground := Ground.phase }, { on := 5, ground := Ground.phase }, { on := 6, ground := Ground.phase }, { on := 7, ground := Ground.phase }, { on := 8, ground := Ground.phase }, { on := 9, ground := Ground.phase }, { on := 10, ground := Ground.phase }, { on := 11, ground := Ground.phase }, { on := 12, ground := Ground.phase }, { on := 13, ground := Ground.phase }, { on := 14, ground := Ground.phase }, { on := 15, ground := Ground.phase }, { on := 16, ground := Ground.phase }], guard := none }) (v := ?_) rfl (by kernel_rfl) (by kernel_rfl) (by kernel_rfl) (fun _ _ _ h => h) (Or.inl ⟨by rfl, ?_⟩) (by assumption) ?_
        rotate_left
        · intro w hSw; (try dsimp only at hSw); go_simp; (try with_reducible rfl)
        simp only [Act.put, List.setIfInBounds_toArray, List.set_cons_zero, List.set_cons_succ]
        refine wpAnyH_ready (rs := [19]) (by kernel_rfl) (by simp) ?_
        refine AllReadyH.cons (o := { dst := none, op := Op.store 51 (Operand.tmp 58) (Operand.tmp 56), type := 0, pos := "inplace.go:27", after := #[{ on := 18, ground := Ground.data }, { on := 16, ground := Ground.data }, { on := 16, ground := Ground.chain }, { on := 0, ground := Ground.phase }, { on := 1, ground := Ground.phase }, { on := 2, ground := Ground.phase }, { on := 3, ground := Ground.phase }, { on := 4, ground := Ground.phase }, { on := 5, ground := Ground.phase }, { on := 6, ground := Ground.phase }, { on := 7, ground := Ground.phase }, { on := 8, ground := Ground.phase }, { on := 9, ground := Ground.phase }, { on := 10, ground := Ground.phase }, { on := 11, ground := Ground.phase }, { on := 12, ground := Ground.phase }, { on := 13, ground := Ground.phase }, { on := 14, ground := Ground.phase }, { on := 15, ground := Ground.phase }, { on := 16, ground := Ground.phase }], guard := none }) rfl (fun KK hKK => ?_) AllReadyH.nil
        go_simp
        refine hKK.out _ _ (by assumption) (fun hHeld => ?_)
        clear hKK KK
        try simp only [Act.put, List.setIfInBounds_toArray, List.set_cons_zero, List.set_cons_succ]
        clear hHeld
        refine wpAnyH_done (by kernel_rfl) ?_ _
        clear d7 d8
        go_wp2
        refine bodyPost_end (res0 rfl _ _) rfl ?_
        exact ⟨rfl, _, _, by rw [unhide HAW]; exact (unhide HF).1, (unhide HG0).trans ((unhide HG1).trans ((unhide HG2).trans (unhide HF).2))⟩


end Go.Proofs.YtlmpdfeidjnmnaaDoor

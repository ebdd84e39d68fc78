/-
  The document's state of a split: end, add, in.
-/
import Derived.Test.YtpljphbaibncjaaSPlain
namespace Go.Proofs.Ytpljphbaibncjaa
open Go.RowKit

/-- From w to w1: all below B lies on, and all blocks of other types than the state's do. -/
structure RTurn (w w1 : World) (B : Nat) : Prop where
  below : Below B w w1
  keep : ∀ k t cs, Blk w k t cs → (t ≠ 57 ∧ t ≠ 4 ∧ t ≠ 5 ∧ t ≠ 38) → Blk w1 k t cs
theorem RTurn.refl (w : World) (B : Nat) : RTurn w w B := ⟨Below.refl _ _, fun _ _ _ h _ => h⟩
theorem RTurn.trans {w w1 w2 : World} {B : Nat} (h : RTurn w w1 B) (h2 : RTurn w1 w2 B) : RTurn w w2 B := ⟨h.below.trans h2.below, fun k t cs hb ht => h2.keep k t cs (h.keep k t cs hb ht) ht⟩
theorem RTurn.of_below {w w1 : World} {B : Nat} (h : Below w.heap.size w w1) (hB : B ≤ w.heap.size) : RTurn w w1 B := ⟨h.mono hB, fun _ _ _ hb _ => hb.below h hb.lt⟩
/-- The document's state at block b. -/
structure RGg (w : World) (B b : Nat) (out : List Fd) (nl : List UInt8) (ql : List Bool) (is mk : Bool) (L : List (Fd × Value)) (ov nv qv : Value) : Prop where
  blk : Blk w b 57 #[ov, nv, qv, .bool is, .bool mk]
  row : w.ownsRow B 38 2 ov L.length (flatF L)
  own : OwnB w B nv nl
  oq : OwnQ w B qv ql
  out : L.map Prod.fst = out
  sub : ∀ x ∈ L, OwnQ w B x.2 (fqs x.1) ∧ ∀ k, x.2.ownBlock = some k → qv.ownBlock ≠ some k
  lo : B ≤ b
def RG (w : World) (B b : Nat) (out : List Fd) (nl : List UInt8) (ql : List Bool) (is mk : Bool) : Prop := ∃ L ov nv qv, RGg w B b out nl ql is mk L ov nv qv
theorem RGg.kept {w w1 : World} {B b : Nat} {out : List Fd} {nl : List UInt8} {ql : List Bool} {is mk : Bool} {L : List (Fd × Value)} {ov nv qv : Value} (h : RGg w B b out nl ql is mk L ov nv qv) (hb : Below w.heap.size w w1) : RGg w1 B b out nl ql is mk L ov nv qv := by
  have hg : GrownS w w1 (fun _ => False) := grownS_of_below hb
  exact ⟨h.blk.grownS hg (fun e => e), own_grownS h.row hg (fun _ _ e => e), own_grownS h.own hg (fun _ _ e => e), own_grownS h.oq hg (fun _ _ e => e), h.out, fun x hx => ⟨own_grownS (h.sub x hx).1 hg (fun _ _ e => e), (h.sub x hx).2⟩, h.lo⟩
theorem RG.kept {w w1 : World} {B b : Nat} {out : List Fd} {nl : List UInt8} {ql : List Bool} {is mk : Bool} (h : RG w B b out nl ql is mk) (hb : Below w.heap.size w w1) : RG w1 B b out nl ql is mk := by
  obtain ⟨L, ov, nv, qv, h⟩ := h
  exact ⟨L, ov, nv, qv, h.kept hb⟩
theorem RG.size {w : World} {B b : Nat} {out : List Fd} {nl : List UInt8} {ql : List Bool} {is mk : Bool} (h : RG w B b out nl ql is mk) : b < w.heap.size ∧ B ≤ w.heap.size := by
  obtain ⟨L, ov, nv, qv, h⟩ := h
  have h1 := h.blk.lt
  have h2 := h.lo
  exact ⟨h1, by omega⟩
theorem RG.flags {w : World} {B b : Nat} {out : List Fd} {nl : List UInt8} {ql : List Bool} {is mk : Bool} (h : RG w B b out nl ql is mk) : w.cell? ⟨b, 3, none⟩ = some (.bool is) ∧ w.frozen? ⟨b, 3, none⟩ = false ∧ w.cell? ⟨b, 4, none⟩ = some (.bool mk) ∧ w.frozen? ⟨b, 4, none⟩ = false := by
  obtain ⟨L, ov, nv, qv, h⟩ := h
  exact ⟨h.blk.cell 3 rfl, h.blk.frozen 3, h.blk.cell 4 rfl, h.blk.frozen 4⟩
/-- What is written into the state's own block. -/
theorem RGg.put {w : World} {B b : Nat} {out : List Fd} {nl : List UInt8} {ql : List Bool} {is mk : Bool} {L : List (Fd × Value)} {ov nv qv : Value} (h : RGg w B b out nl ql is mk L ov nv qv) (j : Nat) (v : Value) : GrownS w (w.setCell ⟨b, j, none⟩ v) (fun k => k = b) ∧ (∀ (e : TypeId) (sz n : Nat) (u : Value) (xs : List Value), w.ownsRow B e sz u n xs → e ≠ 57 → (w.setCell ⟨b, j, none⟩ v).ownsRow B e sz u n xs) ∧ RTurn w (w.setCell ⟨b, j, none⟩ v) B := by
  have gs := setb_grown w b j v
  refine ⟨gs, fun e sz n u xs hu hne => own_grownS hu gs (fun k hk e' => own_type hu h.blk (Ne.symm hne) (by rw [← e']; exact hk.symm)), ⟨gs.below (by have := h.blk.lt; have := h.lo; omega) (fun k e => by rw [e]; exact h.lo), fun k t cs hk ht => hk.grownS gs (fun e => ?_)⟩⟩
  subst e
  have := hk.symm.trans h.blk
  injection this with this
  injection this with _ this _
  exact ht.1 this
theorem RG.is {w : World} {B b : Nat} {out : List Fd} {nl : List UInt8} {ql : List Bool} {is mk : Bool} (h : RG w B b out nl ql is mk) (x : Bool) : RG (w.setCell ⟨b, 3, none⟩ (.bool x)) B b out nl ql x mk ∧ RTurn w (w.setCell ⟨b, 3, none⟩ (.bool x)) B := by
  obtain ⟨L, ov, nv, qv, h⟩ := h
  obtain ⟨gs, hr, ht⟩ := h.put 3 (.bool x)
  refine ⟨⟨L, ov, nv, qv, ⟨?_, hr _ _ _ _ _ h.row (by decide), hr _ _ _ _ _ h.own (by decide), hr _ _ _ _ _ h.oq (by decide), h.out, fun y hy => ⟨hr _ _ _ _ _ (h.sub y hy).1 (by decide), (h.sub y hy).2⟩, h.lo⟩⟩, ht⟩
  have := h.blk.set 3 (.bool x)
  simpa using this
theorem RG.mark {w : World} {B b : Nat} {out : List Fd} {nl : List UInt8} {ql : List Bool} {is mk : Bool} (h : RG w B b out nl ql is mk) (x : Bool) : RG (w.setCell ⟨b, 4, none⟩ (.bool x)) B b out nl ql is x ∧ RTurn w (w.setCell ⟨b, 4, none⟩ (.bool x)) B := by
  obtain ⟨L, ov, nv, qv, h⟩ := h
  obtain ⟨gs, hr, ht⟩ := h.put 4 (.bool x)
  refine ⟨⟨L, ov, nv, qv, ⟨?_, hr _ _ _ _ _ h.row (by decide), hr _ _ _ _ _ h.own (by decide), hr _ _ _ _ _ h.oq (by decide), h.out, fun y hy => ⟨hr _ _ _ _ _ (h.sub y hy).1 (by decide), (h.sub y hy).2⟩, h.lo⟩⟩, ht⟩
  have := h.blk.set 4 (.bool x)
  simpa using this
/-- A byte more. -/
theorem RGg.now {w w1 : World} {B b n g cap : Nat} {out : List Fd} {nl : List UInt8} {ql : List Bool} {is mk : Bool} {L : List (Fd × Value)} {ov nv qv : Value} {c : UInt8} (h : RGg w B b out nl ql is mk L ov nv qv) (hn : n = nl.length)
    (hown : w1.ownsRow B 5 1 (.slice (some ⟨g, 0, none⟩) (n + 1) cap) (n + 1) (Lib.byteCells nl ++ [.int .u8 (c.toNat : Int)])) (hgr : (w.alloc (.cells #[.int .u8 (c.toNat : Int)] 5)).drew.grownBy w1 nv.ownBlock) :
    w1.cell? ⟨b, 1, none⟩ = some nv ∧ w1.frozen? ⟨b, 1, none⟩ = false ∧ RG (w1.setCell ⟨b, 1, none⟩ (.slice (some ⟨g, 0, none⟩) (n + 1) cap)) B b out (nl ++ [c]) ql is mk ∧ RTurn w (w1.setCell ⟨b, 1, none⟩ (.slice (some ⟨g, 0, none⟩) (n + 1) cap)) B := by
  have g1 : GrownS w w1 (fun k => some k = nv.ownBlock) := ((GrownS.of (World.grownBy_alloc w (.cells #[.int .u8 (c.toNat : Int)] 5) none) (by simp)).trans (grownS_of_below (below_drew _ 1))).trans (GrownS.of hgr (fun _ e => e))
  have k1 := h.blk.grownS g1 (own_type h.own h.blk (by decide))
  have r1 := own_grownS h.row g1 (fun k hk e => own_apart h.row h.own (by decide) hk e.symm)
  have q1 : OwnQ w1 B qv ql := own_grownS h.oq g1 (fun k hk e => own_apart h.oq h.own (by decide) hk e.symm)
  have s1 : ∀ x ∈ L, OwnQ w1 B x.2 (fqs x.1) := fun x hx => own_grownS (h.sub x hx).1 g1 (fun k hk e => own_apart (h.sub x hx).1 h.own (by decide) hk e.symm)
  have ho : OwnB w1 B (.slice (some ⟨g, 0, none⟩) (n + 1) cap) (nl ++ [c]) := own_push (by simp; omega) rfl hown
  have gs := setb_grown w1 b 1 (.slice (some ⟨g, 0, none⟩) (n + 1) cap)
  have hB : B ≤ w.heap.size := by have := h.blk.lt; have := h.lo; omega
  refine ⟨k1.cell 1 rfl, k1.frozen 1, ⟨L, ov, _, qv, ⟨?_, own_grownS r1 gs (fun k hk e => own_type r1 k1 (by decide) (by rw [← e]; exact hk.symm)), own_grownS ho gs (fun k hk e => own_type ho k1 (by decide) (by rw [← e]; exact hk.symm)), own_grownS q1 gs (fun k hk e => own_type q1 k1 (by decide) (by rw [← e]; exact hk.symm)), h.out, fun x hx => ⟨own_grownS (s1 x hx) gs (fun k hk e => own_type (s1 x hx) k1 (by decide) (by rw [← e]; exact hk.symm)), (h.sub x hx).2⟩, h.lo⟩⟩, ⟨?_, ?_⟩⟩
  · have := k1.set 1 (.slice (some ⟨g, 0, none⟩) (n + 1) cap)
    simpa using this
  · exact (g1.below hB (fun k e => (World.ownsRow.lt h.own k e.symm).1)).trans (gs.below (Nat.le_trans hB g1.size) (fun k e => by rw [e]; exact h.lo))
  · intro k t cs hk ht
    have hk1 := hk.grownS g1 (own_type h.own hk ht.2.2.1)
    refine hk1.grownS gs (fun e => ?_)
    subst e
    have := hk1.symm.trans k1
    injection this with this
    injection this with _ this _
    exact ht.1 this
/-- A bool more. -/
theorem RGg.quo {w w1 : World} {B b n g cap : Nat} {out : List Fd} {nl : List UInt8} {ql : List Bool} {is mk : Bool} {L : List (Fd × Value)} {ov nv qv : Value} {x : Bool} (h : RGg w B b out nl ql is mk L ov nv qv) (hn : n = ql.length)
    (hown : w1.ownsRow B 4 1 (.slice (some ⟨g, 0, none⟩) (n + 1) cap) (n + 1) (ql.map Value.bool ++ [.bool x])) (hgr : (w.alloc (.cells #[.bool x] 4)).grownBy w1 qv.ownBlock) (hat : qv.ownBlock = some g ∨ g = w.heap.size + 1) :
    w1.cell? ⟨b, 2, none⟩ = some qv ∧ w1.frozen? ⟨b, 2, none⟩ = false ∧ RG (w1.setCell ⟨b, 2, none⟩ (.slice (some ⟨g, 0, none⟩) (n + 1) cap)) B b out nl (ql ++ [x]) is mk ∧ RTurn w (w1.setCell ⟨b, 2, none⟩ (.slice (some ⟨g, 0, none⟩) (n + 1) cap)) B := by
  have g1 : GrownS w w1 (fun k => some k = qv.ownBlock) := (GrownS.of (World.grownBy_alloc w (.cells #[.bool x] 4) none) (by simp)).trans (GrownS.of hgr (fun _ e => e))
  have k1 := h.blk.grownS g1 (own_type h.oq h.blk (by decide))
  have r1 := own_grownS h.row g1 (fun k hk e => own_apart h.row h.oq (by decide) hk e.symm)
  have n1 : OwnB w1 B nv nl := own_grownS h.own g1 (fun k hk e => own_apart h.own h.oq (by decide) hk e.symm)
  have s1 : ∀ y ∈ L, OwnQ w1 B y.2 (fqs y.1) := fun y hy => own_grownS (h.sub y hy).1 g1 (fun k hk e => (h.sub y hy).2 k hk e.symm)
  have ho : OwnQ w1 B (.slice (some ⟨g, 0, none⟩) (n + 1) cap) (ql ++ [x]) := own_pushQ (by simp; omega) rfl hown
  have gs := setb_grown w1 b 2 (.slice (some ⟨g, 0, none⟩) (n + 1) cap)
  have hB : B ≤ w.heap.size := by have := h.blk.lt; have := h.lo; omega
  refine ⟨k1.cell 2 rfl, k1.frozen 2, ⟨L, ov, nv, _, ⟨?_, own_grownS r1 gs (fun k hk e => own_type r1 k1 (by decide) (by rw [← e]; exact hk.symm)), own_grownS n1 gs (fun k hk e => own_type n1 k1 (by decide) (by rw [← e]; exact hk.symm)), own_grownS ho gs (fun k hk e => own_type ho k1 (by decide) (by rw [← e]; exact hk.symm)), h.out, fun y hy => ⟨own_grownS (s1 y hy) gs (fun k hk e => own_type (s1 y hy) k1 (by decide) (by rw [← e]; exact hk.symm)), fun k hk hk' => ?_⟩, h.lo⟩⟩, ⟨?_, ?_⟩⟩
  · have := k1.set 2 (.slice (some ⟨g, 0, none⟩) (n + 1) cap)
    simpa using this
  · have e1 := ownb hk'
    subst e1
    rcases hat with e | e
    · exact (h.sub y hy).2 g hk e
    · have := (World.ownsRow.lt (h.sub y hy).1 g hk).2
      omega
  · exact (g1.below hB (fun k e => (World.ownsRow.lt h.oq k e.symm).1)).trans (gs.below (Nat.le_trans hB g1.size) (fun k e => by rw [e]; exact h.lo))
  · intro k t cs hk ht
    have hk1 := hk.grownS g1 (own_type h.oq hk ht.2.1)
    refine hk1.grownS gs (fun e => ?_)
    subst e
    have := hk1.symm.trans k1
    injection this with this
    injection this with _ this _
    exact ht.1 this
/-- The field ends. -/
theorem rend_fin {w w2 : World} {B b n g cg : Nat} {out : List Fd} {f : Fd} {is mk : Bool} {L : List (Fd × Value)} {ov nv qv : Value} (h : RGg w B b out (ftx f) (fqs f) is mk L ov nv qv) (hn : L.length = n) (hg : GrownS w w2 (fun k => some k = ov.ownBlock)) (hm : Blk w2 b 57 #[ov, nv, qv, .bool is, .bool mk])
    (hown : w2.ownsRow B 38 2 (.slice (some ⟨g, 0, none⟩) (n + 1) cg) (n + 1) (flatF L ++ [.string (BA (ftx f)), qv])) :
    RG ((((w2.setCell ⟨b, 0, none⟩ (.slice (some ⟨g, 0, none⟩) (n + 1) cg)).setCell ⟨b, 1, none⟩ (.slice none 0 0)).setCell ⟨b, 2, none⟩ (.slice none 0 0)).setCell ⟨b, 3, none⟩ (.bool false)) B b (out ++ [f]) [] [] false mk ∧
      RTurn w ((((w2.setCell ⟨b, 0, none⟩ (.slice (some ⟨g, 0, none⟩) (n + 1) cg)).setCell ⟨b, 1, none⟩ (.slice none 0 0)).setCell ⟨b, 2, none⟩ (.slice none 0 0)).setCell ⟨b, 3, none⟩ (.bool false)) B := by
  have g2 : GrownS w2 ((((w2.setCell ⟨b, 0, none⟩ (.slice (some ⟨g, 0, none⟩) (n + 1) cg)).setCell ⟨b, 1, none⟩ (.slice none 0 0)).setCell ⟨b, 2, none⟩ (.slice none 0 0)).setCell ⟨b, 3, none⟩ (.bool false)) (fun k => k = b) := (((setb_grown _ _ _ _).trans (setb_grown _ _ _ _)).trans (setb_grown _ _ _ _)).trans (setb_grown _ _ _ _)
  have hB : B ≤ w.heap.size := by have := h.blk.lt; have := h.lo; omega
  refine ⟨⟨L ++ [(f, qv)], .slice (some ⟨g, 0, none⟩) (n + 1) cg, .slice none 0 0, .slice none 0 0, ⟨?_, ?_, ownB_nil _ _, ownQ_nil _ _, ?_, ?_, h.lo⟩⟩, ⟨?_, ?_⟩⟩
  · have := (((hm.set 0 (.slice (some ⟨g, 0, none⟩) (n + 1) cg)).set 1 (.slice none 0 0)).set 2 (.slice none 0 0)).set 3 (.bool false)
    simpa using this
  · rw [flatF_snoc, List.length_append, hn]
    exact own_grownS hown g2 (fun k hk e => own_type hown hm (by decide) (by rw [← e]; exact hk.symm))
  · rw [List.map_append, h.out]
    rfl
  · have each : ∀ (v : Value) (l : List Bool), OwnQ w B v l → OwnQ ((((w2.setCell ⟨b, 0, none⟩ (.slice (some ⟨g, 0, none⟩) (n + 1) cg)).setCell ⟨b, 1, none⟩ (.slice none 0 0)).setCell ⟨b, 2, none⟩ (.slice none 0 0)).setCell ⟨b, 3, none⟩ (.bool false)) B v l := by
      intro v l hv
      have v2 : OwnQ w2 B v l := own_grownS hv hg (fun k hk e => own_apart hv h.row (by decide) hk e.symm)
      exact own_grownS v2 g2 (fun k hk e => own_type v2 hm (by decide) (by rw [← e]; exact hk.symm))
    intro x hx
    rcases List.mem_append.1 hx with hx | hx
    · exact ⟨each _ _ (h.sub x hx).1, (fun k _ e => by cases e)⟩
    · simp at hx
      subst hx
      exact ⟨each _ _ h.oq, (fun k _ e => by cases e)⟩
  · exact (hg.below hB (fun k e => (World.ownsRow.lt h.row k e.symm).1)).trans (g2.below (Nat.le_trans hB hg.size) (fun k e => by rw [e]; exact h.lo))
  · intro k t cs hk ht
    have hk1 := hk.grownS hg (own_type h.row hk ht.2.2.2)
    refine hk1.grownS g2 (fun e => ?_)
    subst e
    have := hk1.symm.trans hm
    injection this with this
    injection this with _ this _
    exact ht.1 this
theorem one_byte {x : Int} : ∀ u ∈ [Value.int .u8 x], u.oneCell' = true := by
  intro u hu; simp at hu; subst hu; rfl

set_option maxRecDepth 20000 in
set_option maxHeartbeats 4000000 in
theorem rend_any (w : World) (B b : Nat) (out : List Fd) (f : Fd) (is mk : Bool) (h : RG w B b out (ftx f) (fqs f) is mk) (hl : out.length ≤ 1000000) :
    Calls Try.prog 23 #[.pointer (some ⟨b, 0, none⟩)] w fun e w' => e = .returned (.tuple #[]) ∧ RG w' B b (out ++ [f]) [] [] false mk ∧ RTurn w w' B := by
  obtain ⟨iT, hiT, hzT0, hzT1, hzT2⟩ := info_of info_rfield
  obtain ⟨L, ov, nv, qv, h⟩ := h
  obtain ⟨n, hn⟩ : ∃ n, L.length = n := ⟨_, rfl⟩
  have hnl : n ≤ 1000000 := by have := congrArg List.length h.out; rw [List.length_map] at this; omega
  have HROW : Hid (w.ownsRow B 38 2 ov n (flatF L)) := hide (by rw [← hn]; exact h.row)
  obtain ⟨oa, oc, rfl⟩ := own_slice (unhide HROW)
  obtain ⟨na, nn, nc, rfl⟩ := slice_own h.own
  obtain ⟨qa, qn, qc, rfl⟩ := slice_own h.oq
  obtain ⟨nl, hnl2⟩ : ∃ nl, nl = ftx f := ⟨_, rfl⟩
  have H0 := hide h
  have HF := hide hnl2
  have c0 : w.cell? ⟨b, 0, none⟩ = some (.slice oa n oc) := h.blk.cell 0 rfl
  have hB : B ≤ w.heap.size := by have := h.blk.lt; have := h.lo; omega
  have HNL := hide hn
  have HSX : Hid (∀ W, Below w.heap.size w W → W.cell? ⟨b, 1, none⟩ = some (.slice na nn nc) ∧ W.cell? ⟨b, 2, none⟩ = some (.slice qa qn qc) ∧ (convert 48 9 (.slice na nn nc)).run Try.prog W = .ok (.string (BA nl)) W) := hide (fun W hW => by
    have hk := h.kept hW
    exact ⟨hk.blk.cell 1 rfl, hk.blk.cell 2 rfl, by rw [hnl2]; exact hk.own.text⟩)
  clear h hn hnl2
  have H := H0
  rw [← unhide HF] at H
  go_enter Try.func23, Try.ntmps23
  go_wp2_with fail
  refine wp_region_held_drew (S := fun w' => w'.cell? ⟨b, 1, none⟩ = some (.slice na nn nc) ∧ w'.cell? ⟨b, 2, none⟩ = some (.slice qa qn qc) ∧ (convert 48 9 (.slice na nn nc)).run Try.prog w' = .ok (.string (BA nl)) w') (by kernel_rfl) (by exact unhide HSX _ (Below.refl _ w).drew) (fun hHeld => ?_)
  refine wpAnyH_take (i := 0) (oi := { dst := some 2, op := Op.move (Operand.tmp 0), type := 55, pos := "ref.go:28", after := #[], guard := none }) (v := ?_) rfl (by kernel_rfl) (by kernel_rfl) (by kernel_rfl) (fun _ _ _ h => h) (Or.inl ⟨by rfl, ?_⟩) (by assumption) ?_
  rotate_left
  · intro w hSw; obtain ⟨s1, s2, s3⟩ := hSw; go_simp; (try with_reducible rfl)
  simp only [Act.put, List.setIfInBounds_toArray, List.set_cons_zero, List.set_cons_succ]
  refine wpAnyH_take (i := 1) (oi := { dst := some 3, op := Op.move (Operand.tmp 0), type := 55, pos := "ref.go:28", after := #[], guard := none }) (v := ?_) rfl (by kernel_rfl) (by kernel_rfl) (by kernel_rfl) (fun _ _ _ h => h) (Or.inl ⟨by rfl, ?_⟩) (by assumption) ?_
  rotate_left
  · intro w hSw; obtain ⟨s1, s2, s3⟩ := hSw; go_simp; (try with_reducible rfl)
  simp only [Act.put, List.setIfInBounds_toArray, List.set_cons_zero, List.set_cons_succ]
  refine wpAnyH_take (i := 2) (oi := { dst := some 4, op := Op.nilCheck (Operand.tmp 3), type := 0, pos := "ref.go:28", after := #[{ on := 1, ground := Ground.data }], guard := none }) (v := ?_) rfl (by kernel_rfl) (by kernel_rfl) (by kernel_rfl) (fun _ _ _ h => h) (Or.inl ⟨by rfl, ?_⟩) (by assumption) ?_
  rotate_left
  · intro w hSw; obtain ⟨s1, s2, s3⟩ := hSw; go_simp; (try with_reducible rfl)
  simp only [Act.put, List.setIfInBounds_toArray, List.set_cons_zero, List.set_cons_succ]
  refine wpAnyH_take (i := 3) (oi := { dst := some 5, op := Op.fieldAddr 57 (Operand.tmp 4) 0, type := 0, pos := "ref.go:28", after := #[{ on := 2, ground := Ground.data }], guard := none }) (v := ?_) rfl (by kernel_rfl) (by kernel_rfl) (by kernel_rfl) (fun _ _ _ h => h) (Or.inl ⟨by rfl, ?_⟩) (by assumption) ?_
  rotate_left
  · intro w hSw; obtain ⟨s1, s2, s3⟩ := hSw; go_simp; (try with_reducible rfl)
  simp only [Act.put, List.setIfInBounds_toArray, List.set_cons_zero, List.set_cons_succ]
  refine wpAnyH_take (i := 5) (oi := { dst := some 7, op := Op.move (Operand.tmp 0), type := 55, pos := "ref.go:28", after := #[], guard := none }) (v := ?_) rfl (by kernel_rfl) (by kernel_rfl) (by kernel_rfl) (fun _ _ _ h => h) (Or.inl ⟨by rfl, ?_⟩) (by assumption) ?_
  rotate_left
  · intro w hSw; obtain ⟨s1, s2, s3⟩ := hSw; go_simp; (try with_reducible rfl)
  simp only [Act.put, List.setIfInBounds_toArray, List.set_cons_zero, List.set_cons_succ]
  refine wpAnyH_take (i := 6) (oi := { dst := some 8, op := Op.nilCheck (Operand.tmp 7), type := 0, pos := "ref.go:28", after := #[{ on := 5, ground := Ground.data }], guard := none }) (v := ?_) rfl (by kernel_rfl) (by kernel_rfl) (by kernel_rfl) (fun _ _ _ h => h) (Or.inl ⟨by rfl, ?_⟩) (by assumption) ?_
  rotate_left
  · intro w hSw; obtain ⟨s1, s2, s3⟩ := hSw; go_simp; (try with_reducible rfl)
  simp only [Act.put, List.setIfInBounds_toArray, List.set_cons_zero, List.set_cons_succ]
  refine wpAnyH_take (i := 7) (oi := { dst := some 9, op := Op.fieldAddr 57 (Operand.tmp 8) 1, type := 0, pos := "ref.go:28", after := #[{ on := 6, ground := Ground.data }], guard := none }) (v := ?_) rfl (by kernel_rfl) (by kernel_rfl) (by kernel_rfl) (fun _ _ _ h => h) (Or.inl ⟨by rfl, ?_⟩) (by assumption) ?_
  rotate_left
  · intro w hSw; obtain ⟨s1, s2, s3⟩ := hSw; go_simp; (try with_reducible rfl)
  simp only [Act.put, List.setIfInBounds_toArray, List.set_cons_zero, List.set_cons_succ]
  refine wpAnyH_take (i := 8) (oi := { dst := some 10, op := Op.load 48 (Operand.tmp 9), type := 48, pos := "ref.go:28", after := #[{ on := 7, ground := Ground.data }], guard := none }) (v := ?_) rfl (by kernel_rfl) (by kernel_rfl) (by kernel_rfl) (fun _ _ _ h => h) (Or.inl ⟨by rfl, ?_⟩) (by assumption) ?_
  rotate_left
  · intro w hSw; obtain ⟨s1, s2, s3⟩ := hSw; go_simp; (try with_reducible rfl)
  simp only [Act.put, List.setIfInBounds_toArray, List.set_cons_zero, List.set_cons_succ]
  refine wpAnyH_take (i := 9) (oi := { dst := some 11, op := Op.convert 48 9 (Operand.tmp 10), type := 9, pos := "ref.go:28", after := #[{ on := 8, ground := Ground.data }], guard := none }) (v := ?_) rfl (by kernel_rfl) (by kernel_rfl) (by kernel_rfl) (fun _ _ _ h => h) (Or.inl ⟨by rfl, ?_⟩) (by assumption) ?_
  rotate_left
  · intro w hSw; obtain ⟨s1, s2, s3⟩ := hSw; go_simp; (try with_reducible rfl)
  simp only [Act.put, List.setIfInBounds_toArray, List.set_cons_zero, List.set_cons_succ]
  refine wpAnyH_take (i := 10) (oi := { dst := some 12, op := Op.move (Operand.tmp 0), type := 55, pos := "ref.go:28", after := #[], guard := none }) (v := ?_) rfl (by kernel_rfl) (by kernel_rfl) (by kernel_rfl) (fun _ _ _ h => h) (Or.inl ⟨by rfl, ?_⟩) (by assumption) ?_
  rotate_left
  · intro w hSw; obtain ⟨s1, s2, s3⟩ := hSw; go_simp; (try with_reducible rfl)
  simp only [Act.put, List.setIfInBounds_toArray, List.set_cons_zero, List.set_cons_succ]
  refine wpAnyH_take (i := 11) (oi := { dst := some 13, op := Op.nilCheck (Operand.tmp 12), type := 0, pos := "ref.go:28", after := #[{ on := 10, ground := Ground.data }], guard := none }) (v := ?_) rfl (by kernel_rfl) (by kernel_rfl) (by kernel_rfl) (fun _ _ _ h => h) (Or.inl ⟨by rfl, ?_⟩) (by assumption) ?_
  rotate_left
  · intro w hSw; obtain ⟨s1, s2, s3⟩ := hSw; go_simp; (try with_reducible rfl)
  simp only [Act.put, List.setIfInBounds_toArray, List.set_cons_zero, List.set_cons_succ]
  refine wpAnyH_take (i := 12) (oi := { dst := some 14, op := Op.fieldAddr 57 (Operand.tmp 13) 2, type := 0, pos := "ref.go:28", after := #[{ on := 11, ground := Ground.data }], guard := none }) (v := ?_) rfl (by kernel_rfl) (by kernel_rfl) (by kernel_rfl) (fun _ _ _ h => h) (Or.inl ⟨by rfl, ?_⟩) (by assumption) ?_
  rotate_left
  · intro w hSw; obtain ⟨s1, s2, s3⟩ := hSw; go_simp; (try with_reducible rfl)
  simp only [Act.put, List.setIfInBounds_toArray, List.set_cons_zero, List.set_cons_succ]
  refine wpAnyH_take (i := 13) (oi := { dst := some 15, op := Op.load 32 (Operand.tmp 14), type := 32, pos := "ref.go:28", after := #[{ on := 12, ground := Ground.data }], guard := none }) (v := ?_) rfl (by kernel_rfl) (by kernel_rfl) (by kernel_rfl) (fun _ _ _ h => h) (Or.inl ⟨by rfl, ?_⟩) (by assumption) ?_
  rotate_left
  · intro w hSw; obtain ⟨s1, s2, s3⟩ := hSw; go_simp; (try with_reducible rfl)
  simp only [Act.put, List.setIfInBounds_toArray, List.set_cons_zero, List.set_cons_succ]
  refine wpAnyH_take (i := 14) (oi := { dst := some 16, op := Op.build 38 #[(0, Operand.tmp 11), (1, Operand.tmp 15)], type := 38, pos := "ref.go:28", after := #[{ on := 9, ground := Ground.data }, { on := 13, ground := Ground.data }], guard := none }) (v := ?_) rfl (by kernel_rfl) (by kernel_rfl) (by kernel_rfl) (fun _ _ _ h => h) (Or.inl ⟨by rfl, ?_⟩) (by assumption) ?_
  rotate_left
  · intro w hSw; obtain ⟨s1, s2, s3⟩ := hSw; go_simp; (try with_reducible rfl)
  simp only [Act.put, List.setIfInBounds_toArray, List.set_cons_zero, List.set_cons_succ]
  refine wpAnyH_ready (rs := [4, 15]) (by kernel_rfl) (by simp) ?_
  refine AllReadyH.cons (o := { dst := some 6, op := Op.load 25 (Operand.tmp 5), type := 25, pos := "ref.go:28", after := #[{ on := 3, ground := Ground.data }], guard := none }) rfl (fun KK hKK => ?_) (AllReadyH.cons (o := { dst := some 17, op := Op.buildSlice 25 1 #[(0, Operand.tmp 16)], type := 25, pos := "ref.go:28", after := #[{ on := 14, ground := Ground.data }], guard := none }) rfl (fun KK hKK => ?_) AllReadyH.nil)
  · go_simp
    refine hKK.out _ _ (by exact unhide HSX _ (Below.refl _ w).drew) (fun hHeld => ?_)
    clear hKK KK
    try simp only [Act.put, List.setIfInBounds_toArray, List.set_cons_zero, List.set_cons_succ]
    refine wpAnyH_ready (rs := [15]) (by kernel_rfl) (by simp) ?_
    refine AllReadyH.cons (o := { dst := some 17, op := Op.buildSlice 25 1 #[(0, Operand.tmp 16)], type := 25, pos := "ref.go:28", after := #[{ on := 14, ground := Ground.data }], guard := none }) rfl (fun KK hKK => ?_) AllReadyH.nil
    go_simp
    have c0a : (w.alloc (.cells #[.string (BA nl), .slice qa qn qc] 38)).cell? ⟨b, 0, none⟩ = some (.slice oa n oc) := cell_alloc c0 _
    have HSA : Hid ((w.alloc (.cells #[.string (BA nl), .slice qa qn qc] 38)).drew.cell? ⟨b, 1, none⟩ = some (.slice na nn nc) ∧ (w.alloc (.cells #[.string (BA nl), .slice qa qn qc] 38)).drew.cell? ⟨b, 2, none⟩ = some (.slice qa qn qc) ∧ (convert 48 9 (.slice na nn nc)).run Try.prog (w.alloc (.cells #[.string (BA nl), .slice qa qn qc] 38)).drew = .ok (.string (BA nl)) (w.alloc (.cells #[.string (BA nl), .slice qa qn qc] 38)).drew) := hide (unhide HSX _ ((Below.refl _ w).alloc (Nat.le_refl _) _).drew)
    refine hKK.out _ _ (by exact unhide HSA) (fun hHeld => ?_)
    clear hKK KK
    try simp only [Act.put, List.setIfInBounds_toArray, List.set_cons_zero, List.set_cons_succ]
    refine wpAnyH_ready (rs := [16]) (by kernel_rfl) (by simp) ?_
    refine AllReadyH.cons (o := { dst := some 18, op := Op.call { callee := Callee.builtin Builtin.append, args := #[Operand.tmp 6, Operand.tmp 17], argTypes := #[25, 25] }, type := 25, pos := "ref.go:28", after := #[{ on := 4, ground := Ground.data }, { on := 15, ground := Ground.data }], guard := none }) rfl (fun KK hKK => ?_) AllReadyH.nil
    refine step_append_lies _ (by rfl) _ _ _ (by rfl) B 38 iT _ 2 40 und_rfields hiT hzT0 hzT1 hzT2 rfl (by decide) (.slice oa n oc) n (flatF L) (by simp [Act.eval]) (own_drew (World.ownsRow.alloc (unhide HROW) _)) ⟨w.heap.size, 0, none⟩ 1 1 [.string (BA nl), .slice qa qn qc] (by simp [Act.eval]) rfl (fun j u hu => two_drew j u hu) two_is (by decide) (by unfold maxLen; omega) (by omega) (by simp; omega) (w.heap.size + 1) (by simp) ?_
    intro g cg w2 hown2 hgrow hat hlt2
    have HG2 : Hid (GrownS w w2 (fun k => some k = Value.ownBlock (.slice oa n oc))) := hide (((GrownS.of (World.grownBy_alloc w (.cells #[.string (BA nl), .slice qa qn qc] 38) none) (by simp)).trans (grownS_of_below (below_drew _ 1))).trans (GrownS.of hgrow (fun _ e => e)))
    have HO2 := hide hown2
    have HM := hide ((unhide H).blk.grownS (unhide HG2) (own_type (unhide HROW) (unhide H).blk (by decide)))
    have d0 : w2.cell? ⟨b, 0, none⟩ = some (.slice oa n oc) := (unhide HM).cell 0 rfl
    have z0 : w2.frozen? ⟨b, 0, none⟩ = false := (unhide HM).frozen 0
    have HN2 : Hid (OwnB w2 B (.slice na nn nc) nl) := hide (own_grownS (unhide H).own (unhide HG2) (fun k hk e => own_apart (unhide H).own (unhide HROW) (by decide) hk e.symm))
    have HS2 : Hid (w2.cell? ⟨b, 1, none⟩ = some (.slice na nn nc) ∧ w2.cell? ⟨b, 2, none⟩ = some (.slice qa qn qc) ∧ (convert 48 9 (.slice na nn nc)).run Try.prog w2 = .ok (.string (BA nl)) w2) := hide ⟨(unhide HM).cell 1 rfl, (unhide HM).cell 2 rfl, (unhide HN2).text⟩
    clear hown2 hgrow hat hlt2
    refine hKK.out _ _ (by exact unhide HS2) (fun hHeld => ?_)
    clear hKK KK
    try simp only [Act.put, List.setIfInBounds_toArray, List.set_cons_zero, List.set_cons_succ]
    refine wpAnyH_take (i := 17) (oi := { dst := some 19, op := Op.nilCheck (Operand.tmp 2), type := 0, pos := "ref.go:28", after := #[{ on := 0, ground := Ground.data }, { on := 0, ground := Ground.phase }, { on := 1, ground := Ground.phase }, { on := 2, ground := Ground.phase }, { on := 3, ground := Ground.phase }, { on := 4, ground := Ground.phase }, { on := 5, ground := Ground.phase }, { on := 6, ground := Ground.phase }, { on := 7, ground := Ground.phase }, { on := 8, ground := Ground.phase }, { on := 9, ground := Ground.phase }, { on := 10, ground := Ground.phase }, { on := 11, ground := Ground.phase }, { on := 12, ground := Ground.phase }, { on := 13, ground := Ground.phase }, { on := 14, ground := Ground.phase }, { on := 15, ground := Ground.phase }, { on := 16, ground := Ground.phase }], guard := none }) (v := ?_) rfl (by kernel_rfl) (by kernel_rfl) (by kernel_rfl) (fun _ _ _ h => h) (Or.inl ⟨by rfl, ?_⟩) (by assumption) ?_
    rotate_left
    · intro w hSw; obtain ⟨s1, s2, s3⟩ := hSw; go_simp; (try with_reducible rfl)
    simp only [Act.put, List.setIfInBounds_toArray, List.set_cons_zero, List.set_cons_succ]
    refine wpAnyH_take (i := 18) (oi := { dst := some 20, op := Op.fieldAddr 57 (Operand.tmp 19) 0, type := 0, pos := "ref.go:28", after := #[{ on := 17, ground := Ground.data }, { on := 0, ground := Ground.phase }, { on := 1, ground := Ground.phase }, { on := 2, ground := Ground.phase }, { on := 3, ground := Ground.phase }, { on := 4, ground := Ground.phase }, { on := 5, ground := Ground.phase }, { on := 6, ground := Ground.phase }, { on := 7, ground := Ground.phase }, { on := 8, ground := Ground.phase }, { on := 9, ground := Ground.phase }, { on := 10, ground := Ground.phase }, { on := 11, ground := Ground.phase }, { on := 12, ground := Ground.phase }, { on := 13, ground := Ground.phase }, { on := 14, ground := Ground.phase }, { on := 15, ground := Ground.phase }, { on := 16, ground := Ground.phase }], guard := none }) (v := ?_) rfl (by kernel_rfl) (by kernel_rfl) (by kernel_rfl) (fun _ _ _ h => h) (Or.inl ⟨by rfl, ?_⟩) (by assumption) ?_
    rotate_left
    · intro w hSw; obtain ⟨s1, s2, s3⟩ := hSw; go_simp; (try with_reducible rfl)
    simp only [Act.put, List.setIfInBounds_toArray, List.set_cons_zero, List.set_cons_succ]
    refine wpAnyH_ready (rs := [19]) (by kernel_rfl) (by simp) ?_
    refine AllReadyH.cons (o := { dst := none, op := Op.store 25 (Operand.tmp 20) (Operand.tmp 18), type := 0, pos := "ref.go:28", after := #[{ on := 18, ground := Ground.data }, { on := 16, ground := Ground.data }, { on := 16, ground := Ground.chain }, { on := 0, ground := Ground.phase }, { on := 1, ground := Ground.phase }, { on := 2, ground := Ground.phase }, { on := 3, ground := Ground.phase }, { on := 4, ground := Ground.phase }, { on := 5, ground := Ground.phase }, { on := 6, ground := Ground.phase }, { on := 7, ground := Ground.phase }, { on := 8, ground := Ground.phase }, { on := 9, ground := Ground.phase }, { on := 10, ground := Ground.phase }, { on := 11, ground := Ground.phase }, { on := 12, ground := Ground.phase }, { on := 13, ground := Ground.phase }, { on := 14, ground := Ground.phase }, { on := 15, ground := Ground.phase }, { on := 16, ground := Ground.phase }], guard := none }) rfl (fun KK hKK => ?_) AllReadyH.nil
    go_simp
    have HM3 : Hid (Blk (w2.setCell ⟨b, 0, none⟩ (.slice (some ⟨g, 0, none⟩) (n + 1) cg)) b 57 #[.slice (some ⟨g, 0, none⟩) (n + 1) cg, .slice na nn nc, .slice qa qn qc, .bool is, .bool mk]) := hide (by have := (unhide HM).set 0 (.slice (some ⟨g, 0, none⟩) (n + 1) cg); simpa using this)
    have HN3 : Hid (OwnB (w2.setCell ⟨b, 0, none⟩ (.slice (some ⟨g, 0, none⟩) (n + 1) cg)) B (.slice na nn nc) nl) := hide (own_grownS (unhide HN2) (setb_grown _ _ _ _) (fun k hk e => own_type (unhide HN2) (unhide HM) (by decide) (by rw [← e]; exact hk.symm)))
    have HS3 : Hid ((w2.setCell ⟨b, 0, none⟩ (.slice (some ⟨g, 0, none⟩) (n + 1) cg)).cell? ⟨b, 1, none⟩ = some (.slice na nn nc) ∧ (w2.setCell ⟨b, 0, none⟩ (.slice (some ⟨g, 0, none⟩) (n + 1) cg)).cell? ⟨b, 2, none⟩ = some (.slice qa qn qc) ∧ (convert 48 9 (.slice na nn nc)).run Try.prog (w2.setCell ⟨b, 0, none⟩ (.slice (some ⟨g, 0, none⟩) (n + 1) cg)) = .ok (.string (BA nl)) (w2.setCell ⟨b, 0, none⟩ (.slice (some ⟨g, 0, none⟩) (n + 1) cg))) := hide ⟨(unhide HM3).cell 1 rfl, (unhide HM3).cell 2 rfl, (unhide HN3).text⟩
    refine hKK.out _ _ (by exact unhide HS3) (fun hHeld => ?_)
    clear hKK KK
    try simp only [Act.put, List.setIfInBounds_toArray, List.set_cons_zero, List.set_cons_succ]
    clear hHeld
    refine wpAnyH_done (by kernel_rfl) ?_ _
    have HE := hide (rend_fin (unhide H0) (unhide HNL) (unhide HG2) (unhide HM) (unhide HF ▸ unhide HO2))
    obtain ⟨w3, hw3⟩ : ∃ x, x = (w2.setCell ⟨b, 0, none⟩ (.slice (some ⟨g, 0, none⟩) (n + 1) cg)) := ⟨_, rfl⟩
    rw [← hw3] at HM3 HE ⊢
    have e1 := (unhide HM3).cell 1 rfl
    have y1 := (unhide HM3).frozen 1
    have e2 := (unhide HM3).cell 2 rfl
    have y2 := (unhide HM3).frozen 2
    have e3 := (unhide HM3).cell 3 rfl
    have y3 := (unhide HM3).frozen 3
    clear hw3 d0 z0 c0 HS2 HS3 HN2 HN3
    go_wp2
    refine bodyPost_end (res0 rfl _ _) rfl ?_
    exact ⟨rfl, unhide HE⟩
  · go_simp
    have c0a : (w.alloc (.cells #[.string (BA nl), .slice qa qn qc] 38)).cell? ⟨b, 0, none⟩ = some (.slice oa n oc) := cell_alloc c0 _
    have HSA : Hid ((w.alloc (.cells #[.string (BA nl), .slice qa qn qc] 38)).drew.cell? ⟨b, 1, none⟩ = some (.slice na nn nc) ∧ (w.alloc (.cells #[.string (BA nl), .slice qa qn qc] 38)).drew.cell? ⟨b, 2, none⟩ = some (.slice qa qn qc) ∧ (convert 48 9 (.slice na nn nc)).run Try.prog (w.alloc (.cells #[.string (BA nl), .slice qa qn qc] 38)).drew = .ok (.string (BA nl)) (w.alloc (.cells #[.string (BA nl), .slice qa qn qc] 38)).drew) := hide (unhide HSX _ ((Below.refl _ w).alloc (Nat.le_refl _) _).drew)
    refine hKK.out _ _ (by exact unhide HSA) (fun hHeld => ?_)
    clear hKK KK
    try simp only [Act.put, List.setIfInBounds_toArray, List.set_cons_zero, List.set_cons_succ]
    refine wpAnyH_ready (rs := [4]) (by kernel_rfl) (by simp) ?_
    refine AllReadyH.cons (o := { dst := some 6, op := Op.load 25 (Operand.tmp 5), type := 25, pos := "ref.go:28", after := #[{ on := 3, ground := Ground.data }], guard := none }) rfl (fun KK hKK => ?_) AllReadyH.nil
    go_simp
    refine hKK.out _ _ (by exact unhide HSA) (fun hHeld => ?_)
    clear hKK KK
    try simp only [Act.put, List.setIfInBounds_toArray, List.set_cons_zero, List.set_cons_succ]
    refine wpAnyH_ready (rs := [16]) (by kernel_rfl) (by simp) ?_
    refine AllReadyH.cons (o := { dst := some 18, op := Op.call { callee := Callee.builtin Builtin.append, args := #[Operand.tmp 6, Operand.tmp 17], argTypes := #[25, 25] }, type := 25, pos := "ref.go:28", after := #[{ on := 4, ground := Ground.data }, { on := 15, ground := Ground.data }], guard := none }) rfl (fun KK hKK => ?_) AllReadyH.nil
    refine step_append_lies _ (by rfl) _ _ _ (by rfl) B 38 iT _ 2 40 und_rfields hiT hzT0 hzT1 hzT2 rfl (by decide) (.slice oa n oc) n (flatF L) (by simp [Act.eval]) (own_drew (World.ownsRow.alloc (unhide HROW) _)) ⟨w.heap.size, 0, none⟩ 1 1 [.string (BA nl), .slice qa qn qc] (by simp [Act.eval]) rfl (fun j u hu => two_drew j u hu) two_is (by decide) (by unfold maxLen; omega) (by omega) (by simp; omega) (w.heap.size + 1) (by simp) ?_
    intro g cg w2 hown2 hgrow hat hlt2
    have HG2 : Hid (GrownS w w2 (fun k => some k = Value.ownBlock (.slice oa n oc))) := hide (((GrownS.of (World.grownBy_alloc w (.cells #[.string (BA nl), .slice qa qn qc] 38) none) (by simp)).trans (grownS_of_below (below_drew _ 1))).trans (GrownS.of hgrow (fun _ e => e)))
    have HO2 := hide hown2
    have HM := hide ((unhide H).blk.grownS (unhide HG2) (own_type (unhide HROW) (unhide H).blk (by decide)))
    have d0 : w2.cell? ⟨b, 0, none⟩ = some (.slice oa n oc) := (unhide HM).cell 0 rfl
    have z0 : w2.frozen? ⟨b, 0, none⟩ = false := (unhide HM).frozen 0
    have HN2 : Hid (OwnB w2 B (.slice na nn nc) nl) := hide (own_grownS (unhide H).own (unhide HG2) (fun k hk e => own_apart (unhide H).own (unhide HROW) (by decide) hk e.symm))
    have HS2 : Hid (w2.cell? ⟨b, 1, none⟩ = some (.slice na nn nc) ∧ w2.cell? ⟨b, 2, none⟩ = some (.slice qa qn qc) ∧ (convert 48 9 (.slice na nn nc)).run Try.prog w2 = .ok (.string (BA nl)) w2) := hide ⟨(unhide HM).cell 1 rfl, (unhide HM).cell 2 rfl, (unhide HN2).text⟩
    clear hown2 hgrow hat hlt2
    refine hKK.out _ _ (by exact unhide HS2) (fun hHeld => ?_)
    clear hKK KK
    try simp only [Act.put, List.setIfInBounds_toArray, List.set_cons_zero, List.set_cons_succ]
    refine wpAnyH_take (i := 17) (oi := { dst := some 19, op := Op.nilCheck (Operand.tmp 2), type := 0, pos := "ref.go:28", after := #[{ on := 0, ground := Ground.data }, { on := 0, ground := Ground.phase }, { on := 1, ground := Ground.phase }, { on := 2, ground := Ground.phase }, { on := 3, ground := Ground.phase }, { on := 4, ground := Ground.phase }, { on := 5, ground := Ground.phase }, { on := 6, ground := Ground.phase }, { on := 7, ground := Ground.phase }, { on := 8, ground := Ground.phase }, { on := 9, ground := Ground.phase }, { on := 10, ground := Ground.phase }, { on := 11, ground := Ground.phase }, { on := 12, ground := Ground.phase }, { on := 13, ground := Ground.phase }, { on := 14, ground := Ground.phase }, { on := 15, ground := Ground.phase }, { on := 16, ground := Ground.phase }], guard := none }) (v := ?_) rfl (by kernel_rfl) (by kernel_rfl) (by kernel_rfl) (fun _ _ _ h => h) (Or.inl ⟨by rfl, ?_⟩) (by assumption) ?_
    rotate_left
    · intro w hSw; obtain ⟨s1, s2, s3⟩ := hSw; go_simp; (try with_reducible rfl)
    simp only [Act.put, List.setIfInBounds_toArray, List.set_cons_zero, List.set_cons_succ]
    refine wpAnyH_take (i := 18) (oi := { dst := some 20, op := Op.fieldAddr 57 (Operand.tmp 19) 0, type := 0, pos := "ref.go:28", after := #[{ on := 17, ground := Ground.data }, { on := 0, ground := Ground.phase }, { on := 1, ground := Ground.phase }, { on := 2, ground := Ground.phase }, { on := 3, ground := Ground.phase }, { on := 4, ground := Ground.phase }, { on := 5, ground := Ground.phase }, { on := 6, ground := Ground.phase }, { on := 7, ground := Ground.phase }, { on := 8, ground := Ground.phase }, { on := 9, ground := Ground.phase }, { on := 10, ground := Ground.phase }, { on := 11, ground := Ground.phase }, { on := 12, ground := Ground.phase }, { on := 13, ground := Ground.phase }, { on := 14, ground := Ground.phase }, { on := 15, ground := Ground.phase }, { on := 16, ground := Ground.phase }], guard := none }) (v := ?_) rfl (by kernel_rfl) (by kernel_rfl) (by kernel_rfl) (fun _ _ _ h => h) (Or.inl ⟨by rfl, ?_⟩) (by assumption) ?_
    rotate_left
    · intro w hSw; obtain ⟨s1, s2, s3⟩ := hSw; go_simp; (try with_reducible rfl)
    simp only [Act.put, List.setIfInBounds_toArray, List.set_cons_zero, List.set_cons_succ]
    refine wpAnyH_ready (rs := [19]) (by kernel_rfl) (by simp) ?_
    refine AllReadyH.cons (o := { dst := none, op := Op.store 25 (Operand.tmp 20) (Operand.tmp 18), type := 0, pos := "ref.go:28", after := #[{ on := 18, ground := Ground.data }, { on := 16, ground := Ground.data }, { on := 16, ground := Ground.chain }, { on := 0, ground := Ground.phase }, { on := 1, ground := Ground.phase }, { on := 2, ground := Ground.phase }, { on := 3, ground := Ground.phase }, { on := 4, ground := Ground.phase }, { on := 5, ground := Ground.phase }, { on := 6, ground := Ground.phase }, { on := 7, ground := Ground.phase }, { on := 8, ground := Ground.phase }, { on := 9, ground := Ground.phase }, { on := 10, ground := Ground.phase }, { on := 11, ground := Ground.phase }, { on := 12, ground := Ground.phase }, { on := 13, ground := Ground.phase }, { on := 14, ground := Ground.phase }, { on := 15, ground := Ground.phase }, { on := 16, ground := Ground.phase }], guard := none }) rfl (fun KK hKK => ?_) AllReadyH.nil
    go_simp
    have HM3 : Hid (Blk (w2.setCell ⟨b, 0, none⟩ (.slice (some ⟨g, 0, none⟩) (n + 1) cg)) b 57 #[.slice (some ⟨g, 0, none⟩) (n + 1) cg, .slice na nn nc, .slice qa qn qc, .bool is, .bool mk]) := hide (by have := (unhide HM).set 0 (.slice (some ⟨g, 0, none⟩) (n + 1) cg); simpa using this)
    have HN3 : Hid (OwnB (w2.setCell ⟨b, 0, none⟩ (.slice (some ⟨g, 0, none⟩) (n + 1) cg)) B (.slice na nn nc) nl) := hide (own_grownS (unhide HN2) (setb_grown _ _ _ _) (fun k hk e => own_type (unhide HN2) (unhide HM) (by decide) (by rw [← e]; exact hk.symm)))
    have HS3 : Hid ((w2.setCell ⟨b, 0, none⟩ (.slice (some ⟨g, 0, none⟩) (n + 1) cg)).cell? ⟨b, 1, none⟩ = some (.slice na nn nc) ∧ (w2.setCell ⟨b, 0, none⟩ (.slice (some ⟨g, 0, none⟩) (n + 1) cg)).cell? ⟨b, 2, none⟩ = some (.slice qa qn qc) ∧ (convert 48 9 (.slice na nn nc)).run Try.prog (w2.setCell ⟨b, 0, none⟩ (.slice (some ⟨g, 0, none⟩) (n + 1) cg)) = .ok (.string (BA nl)) (w2.setCell ⟨b, 0, none⟩ (.slice (some ⟨g, 0, none⟩) (n + 1) cg))) := hide ⟨(unhide HM3).cell 1 rfl, (unhide HM3).cell 2 rfl, (unhide HN3).text⟩
    refine hKK.out _ _ (by exact unhide HS3) (fun hHeld => ?_)
    clear hKK KK
    try simp only [Act.put, List.setIfInBounds_toArray, List.set_cons_zero, List.set_cons_succ]
    clear hHeld
    refine wpAnyH_done (by kernel_rfl) ?_ _
    have HE := hide (rend_fin (unhide H0) (unhide HNL) (unhide HG2) (unhide HM) (unhide HF ▸ unhide HO2))
    obtain ⟨w3, hw3⟩ : ∃ x, x = (w2.setCell ⟨b, 0, none⟩ (.slice (some ⟨g, 0, none⟩) (n + 1) cg)) := ⟨_, rfl⟩
    rw [← hw3] at HM3 HE ⊢
    have e1 := (unhide HM3).cell 1 rfl
    have y1 := (unhide HM3).frozen 1
    have e2 := (unhide HM3).cell 2 rfl
    have y2 := (unhide HM3).frozen 2
    have e3 := (unhide HM3).cell 3 rfl
    have y3 := (unhide HM3).frozen 3
    clear hw3 d0 z0 c0 HS2 HS3 HN2 HN3
    go_wp2
    refine bodyPost_end (res0 rfl _ _) rfl ?_
    exact ⟨rfl, unhide HE⟩

set_option maxRecDepth 20000 in
set_option maxHeartbeats 4000000 in
theorem radd_any (s : ByteArray) (q : Bool) (w : World) (B b : Nat) (out : List Fd) (nl0 : List UInt8) (ql0 : List Bool) (is mk : Bool) (h : RG w B b out nl0 ql0 is mk) (hl : nl0.length + s.size ≤ 1000000) (hl2 : ql0.length + s.size ≤ 1000000) :
    Calls Try.prog 24 #[.pointer (some ⟨b, 0, none⟩), .string s, .bool q] w fun e w' => e = .returned (.tuple #[]) ∧ RG w' B b out (nl0 ++ s.data.toList) (ql0 ++ List.replicate s.size q) true false ∧ RTurn w w' B := by
  obtain ⟨i0, hi, hz0, hz1, hz2⟩ := info_of info_byte
  obtain ⟨i1, hj, hy0, hy1, hy2⟩ := info_of info_bool
  have H := hide h
  clear h
  go_enter Try.func24, Try.ntmps24
  go_wp2
  go_loopw [6] (fun i wr => ∃ k : Nat, i = .int .i64 k ∧ k ≤ s.size ∧ Hid (RG wr B b out (nl0 ++ s.data.toList.take k) (ql0 ++ List.replicate k q) is mk ∧ RTurn w wr B)) (fun i _ => s.size - (intOf i).toNat)
  case atStart => exact ⟨0, rfl, Nat.zero_le _, hide ⟨by simpa using unhide H, RTurn.refl _ _⟩⟩
  case round =>
    obtain ⟨k, rfl, hk, HI⟩ := hrel
    by_cases hlt : k < s.size
    · obtain ⟨c, hc⟩ : ∃ c : UInt8, s[k]'hlt = c := ⟨_, rfl⟩
      have hk1 : (k : Int) < (s.size : Int) := by omega
      have HTK : Hid (s.data.toList.take (k + 1) = s.data.toList.take k ++ [c]) := hide (by rw [List.take_add_one, List.getElem?_eq_getElem (by rw [data_len]; exact hlt), data_get s k hlt, hc]; rfl)
      obtain ⟨nl, hnl⟩ : ∃ nl, nl = nl0 ++ s.data.toList.take k := ⟨_, rfl⟩
      obtain ⟨ql, hql⟩ : ∃ ql, ql = ql0 ++ List.replicate k q := ⟨_, rfl⟩
      have HNL := hide hnl
      have HQL := hide hql
      obtain ⟨nf, hnf⟩ : ∃ n, n = nl.length := ⟨_, rfl⟩
      obtain ⟨qf, hqf⟩ : ∃ n, n = ql.length := ⟨_, rfl⟩
      have hnfl : nf ≤ 1000000 := by
        have h1 := List.length_take_le k s.data.toList
        rw [hnf, hnl, List.length_append]
        omega
      have hqfl : qf ≤ 1000000 := by rw [hqf, hql, List.length_append, List.length_replicate]; omega
      have HQF := hide hqf
      rw [← hnl, ← hql] at HI
      have HTW := hide (unhide HI).2
      have HBW : Hid (B ≤ wr.heap.size) := hide (unhide HI).1.size.2
      obtain ⟨L, ov, nv, qv, h1⟩ := (unhide HI).1
      obtain ⟨na, nn, nc, rfl⟩ := slice_own h1.own
      have c1 : wr.cell? ⟨b, 1, none⟩ = some (.slice na nn nc) := h1.blk.cell 1 rfl
      have HNO : Hid (wr.ownsRow B 5 1 (.slice na nn nc) nf (Lib.byteCells nl)) := hide (by rw [hnf]; exact h1.own)
      have HST : Hid (∀ (w1 : World) (g cap : Nat), w1.ownsRow B 5 1 (.slice (some ⟨g, 0, none⟩) (nf + 1) cap) (nf + 1) (Lib.byteCells nl ++ [.int .u8 (c.toNat : Int)]) → (wr.alloc (.cells #[.int .u8 (c.toNat : Int)] 5)).drew.grownBy w1 (Value.ownBlock (.slice na nn nc)) → w1.cell? ⟨b, 1, none⟩ = some (.slice na nn nc) ∧ w1.frozen? ⟨b, 1, none⟩ = false ∧ RG (w1.setCell ⟨b, 1, none⟩ (.slice (some ⟨g, 0, none⟩) (nf + 1) cap)) B b out (nl ++ [c]) ql is mk ∧ RTurn wr (w1.setCell ⟨b, 1, none⟩ (.slice (some ⟨g, 0, none⟩) (nf + 1) cap)) B) := hide (fun w1 g cap x1 x2 => h1.now hnf x1 x2)
      clear hnl hql hqf hnf h1 HI
      go_wp2_with fail
      refine wp_region_held_drew (S := fun _ => True) (by kernel_rfl) trivial (fun hHeld => ?_)
      refine wpAnyH_take (i := 0) (oi := { dst := some 13, op := Op.move (Operand.tmp 0), type := 55, pos := "ref.go:36", after := #[], guard := none }) (v := ?_) rfl (by kernel_rfl) (by kernel_rfl) (by kernel_rfl) (fun _ _ _ h => h) (Or.inl ⟨by rfl, ?_⟩) (by assumption) ?_
      rotate_left
      · intro w hSw; (try dsimp only at hSw); go_simp; (try with_reducible rfl)
      simp only [Act.put, List.setIfInBounds_toArray, List.set_cons_zero, List.set_cons_succ]
      refine wpAnyH_take (i := 1) (oi := { dst := some 14, op := Op.move (Operand.tmp 0), type := 55, pos := "ref.go:36", after := #[], guard := none }) (v := ?_) rfl (by kernel_rfl) (by kernel_rfl) (by kernel_rfl) (fun _ _ _ h => h) (Or.inl ⟨by rfl, ?_⟩) (by assumption) ?_
      rotate_left
      · intro w hSw; (try dsimp only at hSw); go_simp; (try with_reducible rfl)
      simp only [Act.put, List.setIfInBounds_toArray, List.set_cons_zero, List.set_cons_succ]
      refine wpAnyH_take (i := 2) (oi := { dst := some 15, op := Op.nilCheck (Operand.tmp 14), type := 0, pos := "ref.go:36", after := #[{ on := 1, ground := Ground.data }], guard := none }) (v := ?_) rfl (by kernel_rfl) (by kernel_rfl) (by kernel_rfl) (fun _ _ _ h => h) (Or.inl ⟨by rfl, ?_⟩) (by assumption) ?_
      rotate_left
      · intro w hSw; (try dsimp only at hSw); go_simp; (try with_reducible rfl)
      simp only [Act.put, List.setIfInBounds_toArray, List.set_cons_zero, List.set_cons_succ]
      refine wpAnyH_take (i := 3) (oi := { dst := some 16, op := Op.fieldAddr 57 (Operand.tmp 15) 1, type := 0, pos := "ref.go:36", after := #[{ on := 2, ground := Ground.data }], guard := none }) (v := ?_) rfl (by kernel_rfl) (by kernel_rfl) (by kernel_rfl) (fun _ _ _ h => h) (Or.inl ⟨by rfl, ?_⟩) (by assumption) ?_
      rotate_left
      · intro w hSw; (try dsimp only at hSw); go_simp; (try with_reducible rfl)
      simp only [Act.put, List.setIfInBounds_toArray, List.set_cons_zero, List.set_cons_succ]
      refine wpAnyH_take (i := 5) (oi := { dst := some 18, op := Op.move (Operand.tmp 1), type := 9, pos := "ref.go:36", after := #[], guard := none }) (v := ?_) rfl (by kernel_rfl) (by kernel_rfl) (by kernel_rfl) (fun _ _ _ h => h) (Or.inl ⟨by rfl, ?_⟩) (by assumption) ?_
      rotate_left
      · intro w hSw; (try dsimp only at hSw); go_simp; (try with_reducible rfl)
      simp only [Act.put, List.setIfInBounds_toArray, List.set_cons_zero, List.set_cons_succ]
      refine wpAnyH_take (i := 6) (oi := { dst := some 19, op := Op.move (Operand.tmp 6), type := 3, pos := "ref.go:36", after := #[], guard := none }) (v := ?_) rfl (by kernel_rfl) (by kernel_rfl) (by kernel_rfl) (fun _ _ _ h => h) (Or.inl ⟨by rfl, ?_⟩) (by assumption) ?_
      rotate_left
      · intro w hSw; (try dsimp only at hSw); go_simp; (try with_reducible rfl)
      simp only [Act.put, List.setIfInBounds_toArray, List.set_cons_zero, List.set_cons_succ]
      refine wpAnyH_take (i := 7) (oi := { dst := some 20, op := Op.index 9 (Operand.tmp 18) (Operand.tmp 19), type := 5, pos := "ref.go:36", after := #[{ on := 5, ground := Ground.data }, { on := 6, ground := Ground.data }], guard := none }) (v := ?_) rfl (by kernel_rfl) (by kernel_rfl) (by kernel_rfl) (fun _ _ _ h => h) (Or.inl ⟨by rfl, ?_⟩) (by assumption) ?_
      rotate_left
      · intro w hSw; (try dsimp only at hSw); go_simp; (try with_reducible rfl)
      simp only [Act.put, List.setIfInBounds_toArray, List.set_cons_zero, List.set_cons_succ]
      refine wpAnyH_ready (rs := [4, 8]) (by kernel_rfl) (by simp) ?_
      refine AllReadyH.cons (o := { dst := some 17, op := Op.load 48 (Operand.tmp 16), type := 48, pos := "ref.go:36", after := #[{ on := 3, ground := Ground.data }], guard := none }) rfl (fun KK hKK => ?_) (AllReadyH.cons (o := { dst := some 21, op := Op.buildSlice 48 1 #[(0, Operand.tmp 20)], type := 48, pos := "ref.go:36", after := #[{ on := 7, ground := Ground.data }], guard := none }) rfl (fun KK hKK => ?_) AllReadyH.nil)
      · go_simp
        refine hKK.out _ _ trivial (fun hHeld => ?_)
        clear hKK KK
        try simp only [Act.put, List.setIfInBounds_toArray, List.set_cons_zero, List.set_cons_succ]
        refine wpAnyH_ready (rs := [8]) (by kernel_rfl) (by simp) ?_
        refine AllReadyH.cons (o := { dst := some 21, op := Op.buildSlice 48 1 #[(0, Operand.tmp 20)], type := 48, pos := "ref.go:36", after := #[{ on := 7, ground := Ground.data }], guard := none }) rfl (fun KK hKK => ?_) AllReadyH.nil
        go_simp
        have c1a : (wr.alloc (.cells #[.int .u8 (c.toNat : Int)] 5)).cell? ⟨b, 1, none⟩ = some (.slice na nn nc) := cell_alloc c1 _
        refine hKK.out _ _ trivial (fun hHeld => ?_)
        clear hKK KK
        try simp only [Act.put, List.setIfInBounds_toArray, List.set_cons_zero, List.set_cons_succ]
        refine wpAnyH_ready (rs := [9]) (by kernel_rfl) (by simp) ?_
        refine AllReadyH.cons (o := { dst := some 22, op := Op.call { callee := Callee.builtin Builtin.append, args := #[Operand.tmp 17, Operand.tmp 21], argTypes := #[48, 48] }, type := 48, pos := "ref.go:36", after := #[{ on := 4, ground := Ground.data }, { on := 8, ground := Ground.data }], guard := none }) rfl (fun KK hKK => ?_) AllReadyH.nil
        refine step_append_lies _ (by rfl) _ _ _ (by rfl) B 5 i0 (.int .u8 0) 1 1 und_bytes hi hz0 hz1 hz2 rfl (by decide) (.slice na nn nc) nf (Lib.byteCells nl) (by simp [Act.eval]) (own_drew (World.ownsRow.alloc (unhide HNO) _)) ⟨wr.heap.size, 0, none⟩ 1 1 [.int .u8 (c.toNat : Int)] (by simp [Act.eval]) rfl (fun j u hu => one_cell (w := wr) (t := 5) j u hu) one_byte (by decide) (by unfold maxLen; omega) (by omega) (by have := unhide HBW; simp; omega) (wr.heap.size + 1) (by simp) ?_
        intro g cg w2 hown2 hgrow hat hlt2
        obtain ⟨d0, z0, hR⟩ := unhide HST w2 g cg hown2 hgrow
        have HR := hide hR
        clear hown2 hgrow hat hlt2 hR
        refine hKK.out _ _ trivial (fun hHeld => ?_)
        clear hKK KK
        try simp only [Act.put, List.setIfInBounds_toArray, List.set_cons_zero, List.set_cons_succ]
        refine wpAnyH_take (i := 10) (oi := { dst := some 23, op := Op.nilCheck (Operand.tmp 13), type := 0, pos := "ref.go:36", after := #[{ on := 0, ground := Ground.data }, { on := 0, ground := Ground.phase }, { on := 1, ground := Ground.phase }, { on := 2, ground := Ground.phase }, { on := 3, ground := Ground.phase }, { on := 4, ground := Ground.phase }, { on := 5, ground := Ground.phase }, { on := 6, ground := Ground.phase }, { on := 7, ground := Ground.phase }, { on := 8, ground := Ground.phase }, { on := 9, ground := Ground.phase }], guard := none }) (v := ?_) rfl (by kernel_rfl) (by kernel_rfl) (by kernel_rfl) (fun _ _ _ h => h) (Or.inl ⟨by rfl, ?_⟩) (by assumption) ?_
        rotate_left
        · intro w hSw; (try dsimp only at hSw); go_simp; (try with_reducible rfl)
        simp only [Act.put, List.setIfInBounds_toArray, List.set_cons_zero, List.set_cons_succ]
        refine wpAnyH_take (i := 11) (oi := { dst := some 24, op := Op.fieldAddr 57 (Operand.tmp 23) 1, type := 0, pos := "ref.go:36", after := #[{ on := 10, ground := Ground.data }, { on := 0, ground := Ground.phase }, { on := 1, ground := Ground.phase }, { on := 2, ground := Ground.phase }, { on := 3, ground := Ground.phase }, { on := 4, ground := Ground.phase }, { on := 5, ground := Ground.phase }, { on := 6, ground := Ground.phase }, { on := 7, ground := Ground.phase }, { on := 8, ground := Ground.phase }, { on := 9, ground := Ground.phase }], guard := none }) (v := ?_) rfl (by kernel_rfl) (by kernel_rfl) (by kernel_rfl) (fun _ _ _ h => h) (Or.inl ⟨by rfl, ?_⟩) (by assumption) ?_
        rotate_left
        · intro w hSw; (try dsimp only at hSw); go_simp; (try with_reducible rfl)
        simp only [Act.put, List.setIfInBounds_toArray, List.set_cons_zero, List.set_cons_succ]
        refine wpAnyH_ready (rs := [12]) (by kernel_rfl) (by simp) ?_
        refine AllReadyH.cons (o := { dst := none, op := Op.store 48 (Operand.tmp 24) (Operand.tmp 22), type := 0, pos := "ref.go:36", after := #[{ on := 11, ground := Ground.data }, { on := 9, ground := Ground.data }, { on := 9, ground := Ground.chain }, { on := 0, ground := Ground.phase }, { on := 1, ground := Ground.phase }, { on := 2, ground := Ground.phase }, { on := 3, ground := Ground.phase }, { on := 4, ground := Ground.phase }, { on := 5, ground := Ground.phase }, { on := 6, ground := Ground.phase }, { on := 7, ground := Ground.phase }, { on := 8, ground := Ground.phase }, { on := 9, ground := Ground.phase }], guard := none }) rfl (fun KK hKK => ?_) AllReadyH.nil
        go_simp
        refine hKK.out _ _ trivial (fun hHeld => ?_)
        clear hKK KK
        try simp only [Act.put, List.setIfInBounds_toArray, List.set_cons_zero, List.set_cons_succ]
        clear hHeld
        refine wpAnyH_done (by kernel_rfl) ?_ _
        obtain ⟨w3, hw3⟩ : ∃ x, x = w2.setCell ⟨b, 1, none⟩ (.slice (some ⟨g, 0, none⟩) (nf + 1) cg) := ⟨_, rfl⟩
        rw [← hw3] at HR ⊢
        obtain ⟨L3, ov3, nv3, qv3, h3⟩ := (unhide HR).1
        obtain ⟨qa, qn, qc, rfl⟩ := slice_own h3.oq
        have c31 : w3.cell? ⟨b, 2, none⟩ = some (.slice qa qn qc) := h3.blk.cell 2 rfl
        have HOQ : Hid (w3.ownsRow B 4 1 (.slice qa qn qc) qf (ql.map Value.bool)) := hide (by rw [unhide HQF]; exact h3.oq)
        have HS2 : Hid (∀ (w1 : World) (g cap : Nat), w1.ownsRow B 4 1 (.slice (some ⟨g, 0, none⟩) (qf + 1) cap) (qf + 1) (ql.map Value.bool ++ [.bool q]) → (w3.alloc (.cells #[.bool q] 4)).grownBy w1 (Value.ownBlock (.slice qa qn qc)) → (Value.ownBlock (.slice qa qn qc) = some g ∨ g = w3.heap.size + 1) → w1.cell? ⟨b, 2, none⟩ = some (.slice qa qn qc) ∧ w1.frozen? ⟨b, 2, none⟩ = false ∧ RG (w1.setCell ⟨b, 2, none⟩ (.slice (some ⟨g, 0, none⟩) (qf + 1) cap)) B b out (nl ++ [c]) (ql ++ [q]) is mk ∧ RTurn w3 (w1.setCell ⟨b, 2, none⟩ (.slice (some ⟨g, 0, none⟩) (qf + 1) cap)) B) := hide (fun w1 g cap x1 x2 x3 => h3.quo (unhide HQF) x1 x2 x3)
        have hB3 : B ≤ w3.heap.size := by have h1 := h3.lo; have h2 := h3.blk.lt; omega
        clear hw3 d0 z0 c1 c1a h3
        go_wp2_with (first
          | (at_builtin; refine wpList_append_lies (w3.alloc (.cells #[.bool q] 4)) rfl (.tmp 29) (.tmp 31) 32 rfl B 4 i1 (.bool false) 1 1 und_bools hj hy0 hy1 hy2 rfl (by decide) (.slice qa qn qc) qf (ql.map Value.bool) rfl (World.ownsRow.alloc (unhide HOQ) _) ⟨w3.heap.size, 0, none⟩ 1 1 [.bool q] rfl rfl one_cell one_bool (by decide) (by unfold maxLen; omega) (by omega) (by simp; omega) (w3.heap.size + 1) (by simp) ?_)
          | go_in)
        intro g2 cap2 w4 hown4 hgrow4 hat4 hlt4
        obtain ⟨d4, z4, hP, hT⟩ := unhide HS2 w4 g2 cap2 hown4 hgrow4 hat4
        have HP4 := hide hP
        have HT4 := hide ((unhide HR).2.trans hT)
        clear hown4 hgrow4 hat4 hlt4 hP hT
        go_wp2
        go_roundw
        case rel => exact ⟨k + 1, by go_num, by omega, hide ⟨by rw [unhide HTK, ← List.append_assoc, ← unhide HNL, show ql0 ++ List.replicate (k + 1) q = ql ++ [q] by rw [unhide HQL, List.append_assoc, ← List.replicate_succ']]; exact unhide HP4, (unhide HTW).trans (unhide HT4)⟩⟩
        case measure => simp [intOf]; omega
      · go_simp
        have c1a : (wr.alloc (.cells #[.int .u8 (c.toNat : Int)] 5)).cell? ⟨b, 1, none⟩ = some (.slice na nn nc) := cell_alloc c1 _
        refine hKK.out _ _ trivial (fun hHeld => ?_)
        clear hKK KK
        try simp only [Act.put, List.setIfInBounds_toArray, List.set_cons_zero, List.set_cons_succ]
        refine wpAnyH_ready (rs := [4]) (by kernel_rfl) (by simp) ?_
        refine AllReadyH.cons (o := { dst := some 17, op := Op.load 48 (Operand.tmp 16), type := 48, pos := "ref.go:36", after := #[{ on := 3, ground := Ground.data }], guard := none }) rfl (fun KK hKK => ?_) AllReadyH.nil
        go_simp
        refine hKK.out _ _ trivial (fun hHeld => ?_)
        clear hKK KK
        try simp only [Act.put, List.setIfInBounds_toArray, List.set_cons_zero, List.set_cons_succ]
        refine wpAnyH_ready (rs := [9]) (by kernel_rfl) (by simp) ?_
        refine AllReadyH.cons (o := { dst := some 22, op := Op.call { callee := Callee.builtin Builtin.append, args := #[Operand.tmp 17, Operand.tmp 21], argTypes := #[48, 48] }, type := 48, pos := "ref.go:36", after := #[{ on := 4, ground := Ground.data }, { on := 8, ground := Ground.data }], guard := none }) rfl (fun KK hKK => ?_) AllReadyH.nil
        refine step_append_lies _ (by rfl) _ _ _ (by rfl) B 5 i0 (.int .u8 0) 1 1 und_bytes hi hz0 hz1 hz2 rfl (by decide) (.slice na nn nc) nf (Lib.byteCells nl) (by simp [Act.eval]) (own_drew (World.ownsRow.alloc (unhide HNO) _)) ⟨wr.heap.size, 0, none⟩ 1 1 [.int .u8 (c.toNat : Int)] (by simp [Act.eval]) rfl (fun j u hu => one_cell (w := wr) (t := 5) j u hu) one_byte (by decide) (by unfold maxLen; omega) (by omega) (by have := unhide HBW; simp; omega) (wr.heap.size + 1) (by simp) ?_
        intro g cg w2 hown2 hgrow hat hlt2
        obtain ⟨d0, z0, hR⟩ := unhide HST w2 g cg hown2 hgrow
        have HR := hide hR
        clear hown2 hgrow hat hlt2 hR
        refine hKK.out _ _ trivial (fun hHeld => ?_)
        clear hKK KK
        try simp only [Act.put, List.setIfInBounds_toArray, List.set_cons_zero, List.set_cons_succ]
        refine wpAnyH_take (i := 10) (oi := { dst := some 23, op := Op.nilCheck (Operand.tmp 13), type := 0, pos := "ref.go:36", after := #[{ on := 0, ground := Ground.data }, { on := 0, ground := Ground.phase }, { on := 1, ground := Ground.phase }, { on := 2, ground := Ground.phase }, { on := 3, ground := Ground.phase }, { on := 4, ground := Ground.phase }, { on := 5, ground := Ground.phase }, { on := 6, ground := Ground.phase }, { on := 7, ground := Ground.phase }, { on := 8, ground := Ground.phase }, { on := 9, ground := Ground.phase }], guard := none }) (v := ?_) rfl (by kernel_rfl) (by kernel_rfl) (by kernel_rfl) (fun _ _ _ h => h) (Or.inl ⟨by rfl, ?_⟩) (by assumption) ?_
        rotate_left
        · intro w hSw; (try dsimp only at hSw); go_simp; (try with_reducible rfl)
        simp only [Act.put, List.setIfInBounds_toArray, List.set_cons_zero, List.set_cons_succ]
        refine wpAnyH_take (i := 11) (oi := { dst := some 24, op := Op.fieldAddr 57 (Operand.tmp 23) 1, type := 0, pos := "ref.go:36", after := #[{ on := 10, ground := Ground.data }, { on := 0, ground := Ground.phase }, { on := 1, ground := Ground.phase }, { on := 2, ground := Ground.phase }, { on := 3, ground := Ground.phase }, { on := 4, ground := Ground.phase }, { on := 5, ground := Ground.phase }, { on := 6, ground := Ground.phase }, { on := 7, ground := Ground.phase }, { on := 8, ground := Ground.phase }, { on := 9, ground := Ground.phase }], guard := none }) (v := ?_) rfl (by kernel_rfl) (by kernel_rfl) (by kernel_rfl) (fun _ _ _ h => h) (Or.inl ⟨by rfl, ?_⟩) (by assumption) ?_
        rotate_left
        · intro w hSw; (try dsimp only at hSw); go_simp; (try with_reducible rfl)
        simp only [Act.put, List.setIfInBounds_toArray, List.set_cons_zero, List.set_cons_succ]
        refine wpAnyH_ready (rs := [12]) (by kernel_rfl) (by simp) ?_
        refine AllReadyH.cons (o := { dst := none, op := Op.store 48 (Operand.tmp 24) (Operand.tmp 22), type := 0, pos := "ref.go:36", after := #[{ on := 11, ground := Ground.data }, { on := 9, ground := Ground.data }, { on := 9, ground := Ground.chain }, { on := 0, ground := Ground.phase }, { on := 1, ground := Ground.phase }, { on := 2, ground := Ground.phase }, { on := 3, ground := Ground.phase }, { on := 4, ground := Ground.phase }, { on := 5, ground := Ground.phase }, { on := 6, ground := Ground.phase }, { on := 7, ground := Ground.phase }, { on := 8, ground := Ground.phase }, { on := 9, ground := Ground.phase }], guard := none }) rfl (fun KK hKK => ?_) AllReadyH.nil
        go_simp
        refine hKK.out _ _ trivial (fun hHeld => ?_)
        clear hKK KK
        try simp only [Act.put, List.setIfInBounds_toArray, List.set_cons_zero, List.set_cons_succ]
        clear hHeld
        refine wpAnyH_done (by kernel_rfl) ?_ _
        obtain ⟨w3, hw3⟩ : ∃ x, x = w2.setCell ⟨b, 1, none⟩ (.slice (some ⟨g, 0, none⟩) (nf + 1) cg) := ⟨_, rfl⟩
        rw [← hw3] at HR ⊢
        obtain ⟨L3, ov3, nv3, qv3, h3⟩ := (unhide HR).1
        obtain ⟨qa, qn, qc, rfl⟩ := slice_own h3.oq
        have c31 : w3.cell? ⟨b, 2, none⟩ = some (.slice qa qn qc) := h3.blk.cell 2 rfl
        have HOQ : Hid (w3.ownsRow B 4 1 (.slice qa qn qc) qf (ql.map Value.bool)) := hide (by rw [unhide HQF]; exact h3.oq)
        have HS2 : Hid (∀ (w1 : World) (g cap : Nat), w1.ownsRow B 4 1 (.slice (some ⟨g, 0, none⟩) (qf + 1) cap) (qf + 1) (ql.map Value.bool ++ [.bool q]) → (w3.alloc (.cells #[.bool q] 4)).grownBy w1 (Value.ownBlock (.slice qa qn qc)) → (Value.ownBlock (.slice qa qn qc) = some g ∨ g = w3.heap.size + 1) → w1.cell? ⟨b, 2, none⟩ = some (.slice qa qn qc) ∧ w1.frozen? ⟨b, 2, none⟩ = false ∧ RG (w1.setCell ⟨b, 2, none⟩ (.slice (some ⟨g, 0, none⟩) (qf + 1) cap)) B b out (nl ++ [c]) (ql ++ [q]) is mk ∧ RTurn w3 (w1.setCell ⟨b, 2, none⟩ (.slice (some ⟨g, 0, none⟩) (qf + 1) cap)) B) := hide (fun w1 g cap x1 x2 x3 => h3.quo (unhide HQF) x1 x2 x3)
        have hB3 : B ≤ w3.heap.size := by have h1 := h3.lo; have h2 := h3.blk.lt; omega
        clear hw3 d0 z0 c1 c1a h3
        go_wp2_with (first
          | (at_builtin; refine wpList_append_lies (w3.alloc (.cells #[.bool q] 4)) rfl (.tmp 29) (.tmp 31) 32 rfl B 4 i1 (.bool false) 1 1 und_bools hj hy0 hy1 hy2 rfl (by decide) (.slice qa qn qc) qf (ql.map Value.bool) rfl (World.ownsRow.alloc (unhide HOQ) _) ⟨w3.heap.size, 0, none⟩ 1 1 [.bool q] rfl rfl one_cell one_bool (by decide) (by unfold maxLen; omega) (by omega) (by simp; omega) (w3.heap.size + 1) (by simp) ?_)
          | go_in)
        intro g2 cap2 w4 hown4 hgrow4 hat4 hlt4
        obtain ⟨d4, z4, hP, hT⟩ := unhide HS2 w4 g2 cap2 hown4 hgrow4 hat4
        have HP4 := hide hP
        have HT4 := hide ((unhide HR).2.trans hT)
        clear hown4 hgrow4 hat4 hlt4 hP hT
        go_wp2
        go_roundw
        case rel => exact ⟨k + 1, by go_num, by omega, hide ⟨by rw [unhide HTK, ← List.append_assoc, ← unhide HNL, show ql0 ++ List.replicate (k + 1) q = ql ++ [q] by rw [unhide HQL, List.append_assoc, ← List.replicate_succ']]; exact unhide HP4, (unhide HTW).trans (unhide HT4)⟩⟩
        case measure => simp [intOf]; omega
    · have hk1 : ¬ (k : Int) < (s.size : Int) := by omega
      have hke : k = s.size := by omega
      have HA : Hid (RG wr B b out (nl0 ++ s.data.toList) (ql0 ++ List.replicate s.size q) is mk) := hide (by
        have := (unhide HI).1
        rwa [List.take_of_length_le (by rw [data_len]; omega), hke] at this)
      obtain ⟨e3, y3, _, _⟩ := (unhide HA).flags
      have HA2 := hide ((unhide HA).is true)
      obtain ⟨_, _, e4, y4⟩ := (unhide HA2).1.flags
      have HA3 := hide ((unhide HA2).1.mark false)
      clear hke
      go_wp2
      refine bodyPost_end (res0 rfl _ _) rfl ?_
      exact ⟨rfl, (unhide HA3).1, ((unhide HI).2.trans (unhide HA2).2).trans (unhide HA3).2⟩

set_option maxRecDepth 20000 in
set_option maxHeartbeats 1000000 in
theorem in_all (s : ByteArray) (c : UInt8) (w : World) (hs : s.size ≤ 1000000) : Calls Try.prog 26 #[.string s, .int .u8 (c.toNat : Int)] w fun e w' => e = .returned (.bool (hasB s.data.toList c)) ∧ w' = w := by
  go_enter Try.func26, Try.ntmps26
  go_wp2
  go_loop [5] (fun i => ∃ k : Nat, i = .int .i64 k ∧ k ≤ s.size ∧ Hid ((s.data.toList.take k).contains c = false)) (fun i => s.size - (intOf i).toNat)
  case atStart => exact ⟨0, rfl, Nat.zero_le _, hide rfl⟩
  case round =>
    obtain ⟨k, rfl, hk, HT⟩ := hrel
    by_cases hlt : k < s.size
    · cases hb : ((s[k].toNat : Int) == (c.toNat : Int)) with
      | true =>
        have HE : Hid (s[k] = c) := hide (UInt8.toNat_inj.1 (by have := eq_of_beq hb; omega))
        go_wp2
        go_ret
        exact ⟨ret_bool (cont_hit hlt (unhide HE)).symm, rfl⟩
      | false =>
        have HE : Hid (s[k] ≠ c) := hide (fun e => by rw [e] at hb; simp at hb)
        go_wp2
        go_round
        case rel => exact ⟨k + 1, by go_num, by omega, hide (cont_take hlt (unhide HE) (unhide HT))⟩
        case measure => simp [intOf]; omega
    · go_wp2
      go_ret
      have hz := unhide HT
      rw [List.take_of_length_le (by rw [data_len]; omega)] at hz
      exact ⟨ret_bool hz.symm, rfl⟩
theorem in_any (l : List UInt8) (c : UInt8) (w : World) (hs : l.length ≤ 1000000) : Calls Try.prog 26 #[.string (BA l), .int .u8 (c.toNat : Int)] w fun e w' => e = .returned (.bool (hasB l c)) ∧ w' = w := in_all (BA l) c w hs

end Go.Proofs.Ytpljphbaibncjaa

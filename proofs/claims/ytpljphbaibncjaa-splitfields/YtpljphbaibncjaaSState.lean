/-
  What package split has while it goes through pieces, in memory.
-/
import Derived.Test.YtpljphbaibncjaaSField
namespace Go.Proofs.Ytpljphbaibncjaa
open Go.RowKit

/-- A field's two cells. -/
def fcs (x : Fd × Value) : List Value := [.string (BA (ftx x.1)), x.2]
def flatF (L : List (Fd × Value)) : List Value := L.flatMap fcs
theorem flatF_snoc (L : List (Fd × Value)) (x : Fd × Value) : flatF (L ++ [x]) = flatF L ++ fcs x := by simp [flatF]
theorem flatF_get : ∀ (L : List (Fd × Value)) (i j : Nat) (x : Fd × Value), L[i]? = some x → j < 2 → (flatF L)[i * 2 + j]? = (fcs x)[j]?
  | y :: r, 0, j, x, h, hj => by
    simp at h
    subst h
    show (fcs y ++ flatF r)[0 * 2 + j]? = _
    rw [List.getElem?_append_left (by simp [fcs]; omega)]
    simp
  | y :: r, i + 1, j, x, h, hj => by
    show (fcs y ++ flatF r)[(i + 1) * 2 + j]? = _
    rw [List.getElem?_append_right (by simp [fcs]; omega), show (i + 1) * 2 + j - (fcs y).length = i * 2 + j by simp [fcs]; omega]
    exact flatF_get r i j x (by simpa using h) hj
theorem und_fields : Try.prog.underlying 27 = some (.slice 34) := by kernel_rfl
theorem info_field : (Try.prog.info? 34).map (fun i => (i.zero, i.size, i.bytes)) = some (some (.agg #[.string ⟨#[]⟩, .slice none 0 0]), 2, 40) := by kernel_rfl

/-- From w to w1: all below B lies on, and all blocks of other types than the fields' do. -/
structure Turn (w w1 : World) (B : Nat) : Prop where
  below : Below B w w1
  keep : ∀ k t cs, Blk w k t cs → (t ≠ 27 ∧ t ≠ 50 ∧ t ≠ 4 ∧ t ≠ 5 ∧ t ≠ 34) → Blk w1 k t cs
theorem Turn.refl (w : World) (B : Nat) : Turn w w B := ⟨Below.refl _ _, fun _ _ _ h _ => h⟩
theorem Turn.trans {w w1 w2 : World} {B : Nat} (h : Turn w w1 B) (h2 : Turn w1 w2 B) : Turn w w2 B := ⟨h.below.trans h2.below, fun k t cs hb ht => h2.keep k t cs (h.keep k t cs hb ht) ht⟩

/-- What there is: the fields at bo, the one that is being made at bm, whether it is there at bt. -/
structure FSg (w : World) (B bo bm bt : Nat) (s : SS) (L : List (Fd × Value)) (ov tv qv : Value) : Prop where
  ob : Blk w bo 27 #[ov]
  mb : Blk w bm 50 #[tv, qv]
  tb : Blk w bt 4 #[.bool s.there]
  row : w.ownsRow B 34 2 ov L.length (flatF L)
  own : OwnB w B tv (ftx s.made)
  oq : OwnQ w B qv (fqs s.made)
  out : L.map Prod.fst = s.out
  sub : ∀ x ∈ L, OwnQ w B x.2 (fqs x.1) ∧ x.2.ownBlock ≠ some bt ∧ ∀ k, x.2.ownBlock = some k → qv.ownBlock ≠ some k
  qb : qv.ownBlock ≠ some bt
  lo : B ≤ bo ∧ B ≤ bm ∧ B ≤ bt
def FS (w : World) (B bo bm bt : Nat) (s : SS) : Prop := ∃ L ov tv qv, FSg w B bo bm bt s L ov tv qv
theorem FSg.kept {w w1 : World} {B bo bm bt : Nat} {s : SS} {L : List (Fd × Value)} {ov tv qv : Value} (h : FSg w B bo bm bt s L ov tv qv) (hb : Below w.heap.size w w1) : FSg w1 B bo bm bt s L ov tv qv := by
  have hg : GrownS w w1 (fun _ => False) := grownS_of_below hb
  exact ⟨h.ob.grownS hg (fun e => e), h.mb.grownS hg (fun e => e), h.tb.grownS hg (fun e => e), own_grownS h.row hg (fun _ _ e => e), own_grownS h.own hg (fun _ _ e => e), own_grownS h.oq hg (fun _ _ e => e), h.out,
    fun x hx => ⟨own_grownS (h.sub x hx).1 hg (fun _ _ e => e), (h.sub x hx).2⟩, h.qb, h.lo⟩
theorem FS.kept {w w1 : World} {B bo bm bt : Nat} {s : SS} (h : FS w B bo bm bt s) (hb : Below w.heap.size w w1) : FS w1 B bo bm bt s := by
  obtain ⟨L, ov, tv, qv, h⟩ := h
  exact ⟨L, ov, tv, qv, h.kept hb⟩
theorem FSg.mark {w : World} {B bo bm bt : Nat} {s s' : SS} {L : List (Fd × Value)} {ov tv qv : Value} (h : FSg w B bo bm bt s L ov tv qv) (h1 : s'.out = s.out) (h2 : s'.made = s.made) (h3 : s'.there = s.there) : FSg w B bo bm bt s' L ov tv qv :=
  ⟨h.ob, h.mb, h3 ▸ h.tb, h.row, h2 ▸ h.own, h2 ▸ h.oq, h1 ▸ h.out, h.sub, h.qb, h.lo⟩
theorem FS.mark {w : World} {B bo bm bt : Nat} {s s' : SS} (h : FS w B bo bm bt s) (h1 : s'.out = s.out) (h2 : s'.made = s.made) (h3 : s'.there = s.there) : FS w B bo bm bt s' := by
  obtain ⟨L, ov, tv, qv, h⟩ := h
  exact ⟨L, ov, tv, qv, h.mark h1 h2 h3⟩
theorem FS.size {w : World} {B bo bm bt : Nat} {s : SS} (h : FS w B bo bm bt s) : bo < w.heap.size ∧ bm < w.heap.size ∧ bt < w.heap.size ∧ B ≤ w.heap.size := by
  obtain ⟨L, ov, tv, qv, h⟩ := h
  have h1 := h.ob.lt
  have h2 := h.lo.1
  exact ⟨h1, h.mb.lt, h.tb.lt, by omega⟩
theorem FS.there {w : World} {B bo bm bt : Nat} {s : SS} (h : FS w B bo bm bt s) : w.cell? ⟨bt, 0, none⟩ = some (.bool s.there) ∧ w.frozen? ⟨bt, 0, none⟩ = false := by
  obtain ⟨L, ov, tv, qv, h⟩ := h
  exact ⟨h.tb.cell 0 rfl, h.tb.frozen 0⟩
theorem Turn.of_below {w w1 : World} {B : Nat} (h : Below w.heap.size w w1) (hB : B ≤ w.heap.size) : Turn w w1 B := ⟨h.mono hB, fun _ _ _ hb _ => hb.below h hb.lt⟩
/-- Bytes are added. -/
theorem FSg.adds {w w1 : World} {B bo bm bt : Nat} {s : SS} {L : List (Fd × Value)} {ov tv qv : Value} (h : FSg w B bo bm bt s L ov tv qv) {t : List UInt8} {q : Bool} (ha : Adds w w1 B bm tv qv (ftx s.made ++ t) (fqs s.made ++ List.replicate t.length q)) :
    FS w1 B bo bm bt ⟨s.out, s.made ++ qt q t, s.there, s.mark⟩ ∧ Turn w w1 B := by
  obtain ⟨tv', qv', a1, a2, a3, a4, a5, a6⟩ := ha
  have hqb : ∀ k, qv'.ownBlock = some k → k ≠ bt := fun k hk e => by
    subst e
    rcases a6 k hk with e | e
    · exact h.qb e
    · have := h.tb.lt; omega
  refine ⟨⟨L, ov, tv', qv', ⟨h.ob.grownS a4 ?_, a1, h.tb.grownS a4 ?_, own_grownS h.row a4 ?_, ?_, ?_, h.out, fun x hx => ⟨own_grownS (h.sub x hx).1 a4 ?_, (h.sub x hx).2.1, fun k hk hk' => ?_⟩, fun e => hqb bt e rfl, h.lo⟩⟩, ⟨?_, ?_⟩⟩
  · rintro (e | e | e)
    · subst e
      have := h.ob.symm.trans h.mb
      injection this with this
      injection this with _ this _
      exact absurd this (by decide)
    · exact own_type h.own h.ob (by decide) e.symm
    · exact own_type h.oq h.ob (by decide) e.symm
  · rintro (e | e | e)
    · subst e
      have := h.tb.symm.trans h.mb
      injection this with this
      injection this with _ this _
      exact absurd this (by decide)
    · exact own_type h.own h.tb (by decide) e.symm
    · exact h.qb e
  · rintro k hk (e | e | e)
    · exact own_type h.row h.mb (by decide) (by rw [← e]; exact hk.symm)
    · exact own_apart h.row h.own (by decide) hk e
    · exact own_apart h.row h.oq (by decide) hk e
  · show OwnB w1 B tv' (ftx (s.made ++ qt q t))
    rw [ftx_app, ftx_qt]
    exact a2
  · show OwnQ w1 B qv' (fqs (s.made ++ qt q t))
    rw [fqs_app, fqs_qt]
    exact a3
  · rintro k hk (e | e | e)
    · exact own_type (h.sub x hx).1 h.mb (by decide) (by rw [← e]; exact hk.symm)
    · exact own_apart (h.sub x hx).1 h.own (by decide) hk e
    · exact (h.sub x hx).2.2 k hk e
  · rcases a6 k hk' with e | e
    · exact (h.sub x hx).2.2 k hk e
    · have := (World.ownsRow.lt (h.sub x hx).1 k hk).2
      omega
  · refine a4.below (by have := h.ob.lt; have := h.lo.1; omega) ?_
    rintro k (e | e | e)
    · rw [e]; exact h.lo.2.1
    · exact (World.ownsRow.lt h.own k e).1
    · exact (World.ownsRow.lt h.oq k e).1
  · intro k ty cs hk hne
    refine hk.grownS a4 ?_
    rintro (e | e | e)
    · subst e
      have := hk.symm.trans h.mb
      injection this with this
      injection this with _ this _
      exact hne.2.1 this
    · exact own_type h.own hk hne.2.2.2.1 e.symm
    · exact own_type h.oq hk hne.2.2.1 e.symm
/-- 'there = b'. -/
theorem FS.store {w : World} {B bo bm bt : Nat} {s : SS} (h : FS w B bo bm bt s) (b : Bool) : FS (w.setCell ⟨bt, 0, none⟩ (.bool b)) B bo bm bt ⟨s.out, s.made, b, s.mark⟩ ∧ Turn w (w.setCell ⟨bt, 0, none⟩ (.bool b)) B := by
  obtain ⟨L, ov, tv, qv, h⟩ := h
  have gs := setb_grown w bt 0 (.bool b)
  have hne : ∀ {k t cs}, Blk w k t cs → t ≠ 4 → k ≠ bt := fun hk ht e => by
    subst e
    have := hk.symm.trans h.tb
    injection this with this
    injection this with _ this _
    exact ht this
  refine ⟨⟨L, ov, tv, qv, ⟨h.ob.grownS gs (hne h.ob (by decide)), h.mb.grownS gs (hne h.mb (by decide)), ?_, own_grownS h.row gs (fun k hk e => own_type h.row h.tb (by decide) (by rw [← e]; exact hk.symm)), own_grownS h.own gs (fun k hk e => own_type h.own h.tb (by decide) (by rw [← e]; exact hk.symm)),
    own_grownS h.oq gs (fun k hk e => h.qb (by rw [← e]; exact hk)), h.out, fun x hx => ⟨own_grownS (h.sub x hx).1 gs (fun k hk e => (h.sub x hx).2.1 (by rw [← e]; exact hk)), (h.sub x hx).2⟩, h.qb, h.lo⟩⟩, ⟨gs.below (by have := h.ob.lt; have := h.lo.1; omega) (fun k e => by rw [e]; exact h.lo.2.2), fun k t cs hk ht => hk.grownS gs (hne hk ht.2.2.1)⟩⟩
  have := h.tb.set 0 (.bool b)
  simpa using this

end Go.Proofs.Ytpljphbaibncjaa

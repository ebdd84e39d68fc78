/-
  The document's reader of words, in memory: a row of parts, and what is wrong.
  A part more: the document's (*reader).add, lit.
-/
import Derived.Test.YtnamfjbfcbamjaaGreatDoorP10
import Derived.Deep.RegionHeld3
import Derived.BigQuiet
namespace Go.Proofs.YtnamfjbfcbamjaaGreatDoor
open Go.RowKit
structure RWg (w : World) (b : Nat) (X : Nat → Prop) (L : List (Prt × Value)) (pv : Value) (er : Int) : Prop where
  blk : Blk w b 59 #[pv, .int .i64 er]
  row : w.ownsRow (b + 1) 37 6 pv L.length (flatP L)
  sub : ∀ x ∈ L, WAt w (InW b X w) x.2 x.1.sub
  xb : X b
  xp : ∀ k, pv.ownBlock = some k → X k
  lo : ∀ k, X k → b ≤ k
  hi : ∀ k, X k → k < w.heap.size
theorem RWg.below {w w1 : World} {b : Nat} {X : Nat → Prop} {L : List (Prt × Value)} {pv : Value} {er : Int} (h : RWg w b X L pv er) (hb : Below w.heap.size w w1) : RWg w1 b X L pv er := by
  have hg : GrownS w w1 (fun _ => False) := grownS_of_below hb
  exact ⟨h.blk.grownS hg (fun e => e), own_grownS h.row hg (fun _ _ e => e), fun x hx => (h.sub x hx).kept (fun k hk => hb.block k hk.2.1) (fun k hk => ⟨hk.1, Nat.lt_of_lt_of_le hk.2.1 hb.size, hk.2.2⟩), h.xb, h.xp, h.lo, fun k hk => Nat.lt_of_lt_of_le (h.hi k hk) hb.size⟩
def RWt (w : World) (b : Nat) (X : Nat → Prop) (ps : List Prt) (er : Int) : Prop := ∃ L pv, RWg w b X L pv er ∧ L.map Prod.fst = ps
theorem RWt.below {w w1 : World} {b : Nat} {X : Nat → Prop} {ps : List Prt} {er : Int} (h : RWt w b X ps er) (hb : Below w.heap.size w w1) : RWt w1 b X ps er := by
  obtain ⟨L, pv, h1, h2⟩ := h
  exact ⟨L, pv, h1.below hb, h2⟩
theorem RWt.lt {w : World} {b : Nat} {X : Nat → Prop} {ps : List Prt} {er : Int} (h : RWt w b X ps er) : b < w.heap.size := by
  obtain ⟨L, pv, h1, _⟩ := h
  exact h1.blk.lt
theorem RWt.lo {w : World} {b : Nat} {X : Nat → Prop} {ps : List Prt} {er : Int} (h : RWt w b X ps er) : ∀ k, X k → b ≤ k := by
  obtain ⟨L, pv, h1, _⟩ := h
  exact h1.lo
theorem RWt.hi {w : World} {b : Nat} {X : Nat → Prop} {ps : List Prt} {er : Int} (h : RWt w b X ps er) : ∀ k, X k → k < w.heap.size := by
  obtain ⟨L, pv, h1, _⟩ := h
  exact h1.hi
def RAdds (w : World) (b : Nat) (X : Nat → Prop) (ps : List Prt) (er : Int) (w' : World) : Prop := ∃ X', RWt w' b X' ps er ∧ GrownS w w' X ∧ ∀ k, X' k → X k ∨ w.heap.size ≤ k
theorem RAdds.trans {w w1 w2 : World} {b : Nat} {X X1 : Nat → Prop} {ps : List Prt} {er : Int} (hg : GrownS w w1 X) (hx : ∀ k, X1 k → X k ∨ w.heap.size ≤ k) (h2 : RAdds w1 b X1 ps er w2) : RAdds w b X ps er w2 := by
  obtain ⟨X2, h3, h4, h5⟩ := h2
  refine ⟨X2, h3, ⟨h4.os.trans hg.os, h4.tape.trans hg.tape, h4.output.trans hg.output, Nat.le_trans hg.size h4.size, fun k hk hn => ?_⟩, fun k hk => ?_⟩
  · rw [h4.block k (Nat.lt_of_lt_of_le hk hg.size) (fun e => by
      rcases hx k e with e | e
      · exact hn e
      · omega)]
    exact hg.block k hk hn
  · rcases h5 k hk with e | e
    · exact hx k e
    · exact .inr (Nat.le_trans hg.size e)
theorem RAdds.of_below {w w1 w2 : World} {b : Nat} {X : Nat → Prop} {ps : List Prt} {er : Int} (hb : Below w.heap.size w w1) (h2 : RAdds w1 b X ps er w2) : RAdds w b X ps er w2 := RAdds.trans (grownS_of_below hb) (fun _ h => .inl h) h2
theorem RAdds.below {w w1 w2 : World} {b : Nat} {X : Nat → Prop} {ps : List Prt} {er : Int} (h : RAdds w b X ps er w1) (hb : Below w1.heap.size w1 w2) : RAdds w b X ps er w2 := by
  obtain ⟨X', h1, h2, h3⟩ := h
  exact ⟨X', h1.below hb, h2.trans (grownS_of_below hb), h3⟩
theorem RAdds.refl {w : World} {b : Nat} {X : Nat → Prop} {ps : List Prt} {er : Int} (h : RWt w b X ps er) : RAdds w b X ps er w := ⟨X, h, grownS_of_below (Below.refl _ _), fun _ h => .inl h⟩
theorem RAdds.then {w w1 w2 : World} {b : Nat} {X : Nat → Prop} {ps qs : List Prt} {er er' : Int} (h : RAdds w b X ps er w1) (h2 : ∀ X1, RWt w1 b X1 ps er → RAdds w1 b X1 qs er' w2) : RAdds w b X qs er' w2 := by
  obtain ⟨X1, h3, h4, h5⟩ := h
  exact RAdds.trans h4 h5 (h2 X1 h3)
theorem RWt.err {w : World} {b : Nat} {X : Nat → Prop} {ps : List Prt} {er : Int} (h : RWt w b X ps er) (e : Int) : w.cell? ⟨b, 1, none⟩ = some (.int .i64 er) ∧ w.frozen? ⟨b, 1, none⟩ = false ∧ RAdds w b X ps e (w.setCell ⟨b, 1, none⟩ (.int .i64 e)) := by
  obtain ⟨L, pv, h1, h2⟩ := h
  have gs := setb_grown w b 1 (.int .i64 e)
  refine ⟨h1.blk.cell 1 rfl, h1.blk.frozen 1, X, ⟨L, pv, ⟨?_, own_grownS h1.row gs (fun k hk e => own_type h1.row h1.blk (by decide) (by rw [← e]; exact hk.symm)), fun x hx => (h1.sub x hx).kept (fun k hk => gs.block k hk.2.1 (fun e => hk.2.2 (by rw [e]; exact h1.xb))) (fun k hk => ⟨hk.1, Nat.lt_of_lt_of_le hk.2.1 gs.size, hk.2.2⟩), h1.xb, h1.xp, h1.lo, fun k hk => Nat.lt_of_lt_of_le (h1.hi k hk) gs.size⟩, h2⟩, gs.mono (fun k _ e => by rw [e]; exact h1.xb), fun _ h => .inl h⟩
  have := h1.blk.set 1 (.int .i64 e)
  simpa using this
theorem RWg.push {w wf : World} {b g cap : Nat} {X A : Nat → Prop} {L : List (Prt × Value)} {pv : Value} {er : Int} {x : Prt × Value} (h : RWg w b X L pv er) (hb : Blk wf b 59 #[.slice (some ⟨g, 0, none⟩) (L.length + 1) cap, .int .i64 er]) (hg : GrownS w wf (fun k => k = b ∨ some k = pv.ownBlock ∨ k = g)) (hat : pv.ownBlock = some g ∨ w.heap.size ≤ g)
    (ho : wf.ownsRow (b + 1) 37 6 (.slice (some ⟨g, 0, none⟩) (L.length + 1) cap) (L.length + 1) (flatP L ++ pcs x)) (hx : WAt w A x.2 x.1.sub) (hA : ∀ k, A k → InW b X w k) :
    RWg wf b (fun k => X k ∨ k = g) (L ++ [x]) (.slice (some ⟨g, 0, none⟩) (L.length + 1) cap) er ∧ GrownS w wf X := by
  have gx : GrownS w wf X := hg.mono (fun k hk e => by
    rcases e with e | e | e
    · rw [e]; exact h.xb
    · exact h.xp k e.symm
    · rcases hat with e' | e'
      · rw [e]; exact h.xp g e'
      · omega)
  have hin : ∀ k, InW b X w k → InW b (fun k => X k ∨ k = g) wf k := fun k hk => ⟨hk.1, Nat.lt_of_lt_of_le hk.2.1 gx.size, fun e => by
    rcases e with e | e
    · exact hk.2.2 e
    · rcases hat with e' | e'
      · exact hk.2.2 (by rw [e]; exact h.xp g e')
      · have := hk.2.1; omega⟩
  refine ⟨⟨hb, ?_, ?_, .inl h.xb, fun k hk => ?_, ?_, ?_⟩, gx⟩
  · rw [flatP_snoc, List.length_append]
    exact ho
  · intro y hy
    rcases List.mem_append.1 hy with hy | hy
    · exact (h.sub y hy).kept (fun k hk => gx.block k hk.2.1 hk.2.2) hin
    · simp at hy
      subst hy
      exact hx.kept (fun k hk => gx.block k (hA k hk).2.1 (hA k hk).2.2) (fun k hk => hin k (hA k hk))
  · exact .inr (ownb hk).symm
  · intro k hk
    rcases hk with hk | hk
    · exact h.lo k hk
    · subst hk
      rcases hat with e | e
      · exact h.lo k (h.xp k e)
      · have := h.blk.lt; omega
  · intro k hk
    rcases hk with hk | hk
    · exact Nat.lt_of_lt_of_le (h.hi k hk) gx.size
    · subst hk
      exact (World.ownsRow.lt ho k rfl).2
theorem RWg.more {w : World} {b g cap n : Nat} {X : Nat → Prop} {M : List (Prt × Value)} {k : Int} {t t' : List UInt8} {q c : Bool} {o er : Int} {s : List Prt} {v : Value} (h : RWg w b X (M ++ [(.mk k t q o c s, v)]) (.slice (some ⟨g, 0, none⟩) n cap) er) (hn : n = M.length + 1) :
    RWg (w.setCell ⟨g, M.length * 6 + 1, none⟩ (.string (BA t'))) b X (M ++ [(.mk k t' q o c s, v)]) (.slice (some ⟨g, 0, none⟩) n cap) er ∧ GrownS w (w.setCell ⟨g, M.length * 6 + 1, none⟩ (.string (BA t'))) X := by
  subst hn
  have gs := setb_grown w g (M.length * 6 + 1) (.string (BA t'))
  have hgX : X g := h.xp g rfl
  have hgb : g ≠ b := fun e => own_type h.row h.blk (by decide) (by rw [← e]; rfl)
  have gx : GrownS w (w.setCell ⟨g, M.length * 6 + 1, none⟩ (.string (BA t'))) X := gs.mono (fun k _ e => by rw [e]; exact hgX)
  have hs : ∀ y, WAt w (InW b X w) y.2 y.1.sub → WAt (w.setCell ⟨g, M.length * 6 + 1, none⟩ (.string (BA t'))) (InW b X (w.setCell ⟨g, M.length * 6 + 1, none⟩ (.string (BA t')))) (y : Prt × Value).2 y.1.sub := fun y hy => hy.kept (fun k hk => gx.block k hk.2.1 hk.2.2) (fun k hk => ⟨hk.1, Nat.lt_of_lt_of_le hk.2.1 gx.size, hk.2.2⟩)
  refine ⟨⟨h.blk.grownS gs hgb.symm, ?_, ?_, h.xb, h.xp, h.lo, fun k hk => Nat.lt_of_lt_of_le (h.hi k hk) gx.size⟩, gx⟩
  · have h1 := h.row
    rw [List.length_append] at h1
    have := own_set h1 (M.length * 6 + 1) (.string (BA t'))
    rw [List.length_append, flatP_snoc]
    rw [flatP_snoc, List.set_append_right _ _ (by rw [flatP_len]; omega), flatP_len, Nat.add_sub_cancel_left] at this
    exact this
  · intro y hy
    rcases List.mem_append.1 hy with hy | hy
    · exact hs y (h.sub y (List.mem_append_left _ hy))
    · simp at hy
      subst hy
      exact hs (.mk k t q o c s, v) (h.sub _ (List.mem_append_right _ (by simp)))
structure RMid (w2 w3 : World) (b g q : Nat) (X : Nat → Prop) (pv : Value) (er : Int) (p : Prt) (v : Value) : Prop where
  bg : b ≠ g
  qg : q ≠ g
  qb : q ≠ b
  blk : Blk w3 b 59 #[pv, .int .i64 er]
  box : Box w3 q p v
  grown : GrownS w2 w3 (fun k => some k = pv.ownBlock)
  at_ : pv.ownBlock = some g ∨ w2.heap.size ≤ g
theorem radd_mid {w2 w3 : World} {b g cap cg n q : Nat} {ad : Option Addr} {X : Nat → Prop} {L2 : List (Prt × Value)} {er : Int} {p : Prt} {v : Value} {zs : List Value} {o : Obj} (h2 : RWg w2 b X L2 (.slice ad n cap) er) 
    (hown : w3.ownsRow (b + 1) 37 6 (.slice (some ⟨g, 0, none⟩) (n + 1) cg) (n + 1) (flatP L2 ++ zs)) (hgrow : ((w2.alloc o).drew).grownBy w3 (Value.ownBlock (.slice ad n cap))) (hat : Value.ownBlock (.slice ad n cap) = some g ∨ g = w2.heap.size + 1) (hbox : Box w2 q p v) (hq : ¬ X q) :
    RMid w2 w3 b g q X (.slice ad n cap) er p v := by
  have hgs : GrownS w2 w3 (fun k => some k = Value.ownBlock (.slice ad n cap)) := (GrownS.of (World.grownBy_alloc w2 o none) (by simp)).trans ((grownS_of_below (below_drew _ 1)).trans (GrownS.of hgrow (fun _ e => e)))
  have hat' : Value.ownBlock (.slice ad n cap) = some g ∨ w2.heap.size ≤ g := hat.imp (fun e => e) (fun e => by omega)
  have hpv : some b ≠ Value.ownBlock (.slice ad n cap) := own_type h2.row h2.blk (by decide)
  have hql : q < w2.heap.size := Blk.lt hbox
  refine ⟨?_, ?_, ?_, h2.blk.grownS hgs hpv, Blk.grownS hbox hgs (fun e => hq (h2.xp q e.symm)), hgs, hat'⟩
  · have := (World.ownsRow.lt hown g rfl).1
    omega
  · rcases hat' with e | e
    · intro h; exact hq (by rw [h]; exact h2.xp g e)
    · omega
  · intro h; exact hq (by rw [h]; exact h2.xb)
theorem radd_finA {w2 w3 : World} {b g cap cg n q : Nat} {ad : Option Addr} {X A : Nat → Prop} {L2 : List (Prt × Value)} {er : Int} {p : Prt} {v z0 z1 z2 z3 z4 z5 : Value} (hM : RMid w2 w3 b g q X (.slice ad n cap) er p v) (h2 : RWg w2 b X L2 (.slice ad n cap) er) (hn : L2.length = n)
    (hown : w3.ownsRow (b + 1) 37 6 (.slice (some ⟨g, 0, none⟩) (n + 1) cg) (n + 1) (flatP L2 ++ [z0, z1, z2, z3, z4, z5])) (hs : WAt w2 A v p.sub) (hA : ∀ k, A k → InW b X w2 k) :
    RWg ((T6 w3 g (n * 6) (.int .i64 p.kind) (.string (BA p.text)) (.bool p.quote) (.int .i64 p.op) (.bool p.colon) v).setCell ⟨b, 0, none⟩ (.slice (some ⟨g, 0, none⟩) (n + 1) cg)) b (fun k => X k ∨ k = g) (L2 ++ [(p, v)]) (.slice (some ⟨g, 0, none⟩) (n + 1) cg) er ∧ GrownS w2 ((T6 w3 g (n * 6) (.int .i64 p.kind) (.string (BA p.text)) (.bool p.quote) (.int .i64 p.op) (.bool p.colon) v).setCell ⟨b, 0, none⟩ (.slice (some ⟨g, 0, none⟩) (n + 1) cg)) X := by
  subst hn
  refine h2.push (x := (p, v)) ?_ ?_ hM.at_ ?_ hs hA
  · exact blk_set0 (hM.blk.grownS (T6_grown ..) hM.bg) _
  · exact ((hM.grown.mono (fun k _ e => .inr (.inl e))).trans ((T6_grown ..).mono (fun k _ e => .inr (.inr e)))).trans ((setb_grown _ _ _ _).mono (fun k _ e => .inl e))
  · exact own_grownS (T6_own hown (flatP_len L2) ..) (setb_grown _ _ _ _) (fun k hk e => hM.bg ((ownb hk).trans e).symm)
theorem radd_finB {w2 w3 : World} {b g cap cg n q : Nat} {ad : Option Addr} {X A : Nat → Prop} {L2 : List (Prt × Value)} {er : Int} {p : Prt} {v z0 z1 z2 z3 z4 z5 : Value} (hM : RMid w2 w3 b g q X (.slice ad n cap) er p v) (h2 : RWg w2 b X L2 (.slice ad n cap) er) (hn : L2.length = n)
    (hown : w3.ownsRow (b + 1) 37 6 (.slice (some ⟨g, 0, none⟩) (n + 1) cg) (n + 1) (flatP L2 ++ [z0, z1, z2, z3, z4, z5])) (hs : WAt w2 A v p.sub) (hA : ∀ k, A k → InW b X w2 k) :
    RWg (T6 (w3.setCell ⟨b, 0, none⟩ (.slice (some ⟨g, 0, none⟩) (n + 1) cg)) g (n * 6) (.int .i64 p.kind) (.string (BA p.text)) (.bool p.quote) (.int .i64 p.op) (.bool p.colon) v) b (fun k => X k ∨ k = g) (L2 ++ [(p, v)]) (.slice (some ⟨g, 0, none⟩) (n + 1) cg) er ∧ GrownS w2 (T6 (w3.setCell ⟨b, 0, none⟩ (.slice (some ⟨g, 0, none⟩) (n + 1) cg)) g (n * 6) (.int .i64 p.kind) (.string (BA p.text)) (.bool p.quote) (.int .i64 p.op) (.bool p.colon) v) X := by
  subst hn
  refine h2.push (x := (p, v)) ?_ ?_ hM.at_ ?_ hs hA
  · exact Blk.grownS (blk_set0 hM.blk _) (T6_grown ..) hM.bg
  · exact ((hM.grown.mono (fun k _ e => .inr (.inl e))).trans ((setb_grown _ _ _ _).mono (fun k _ e => .inl e))).trans ((T6_grown ..).mono (fun k _ e => .inr (.inr e)))
  · exact T6_own (own_grownS hown (setb_grown _ _ _ _) (fun k hk e => hM.bg ((ownb hk).trans e).symm)) (flatP_len L2) ..
theorem rmid_x {w2 w3 : World} {b g q : Nat} {X : Nat → Prop} {L2 : List (Prt × Value)} {pv : Value} {er : Int} {p : Prt} {v : Value} (hM : RMid w2 w3 b g q X pv er p v) (h2 : RWg w2 b X L2 pv er) : ∀ k, X k ∨ k = g → X k ∨ w2.heap.size ≤ k := by
  intro k hk
  rcases hk with hk | hk
  · exact .inl hk
  · subst hk
    rcases hM.at_ with e | e
    · exact .inl (h2.xp _ e)
    · exact .inr e
end Go.Proofs.YtnamfjbfcbamjaaGreatDoor
namespace Go.Proofs.YtnamfjbfcbamjaaGreatDoor
open Go.RowKit
theorem own_slice {w : World} {base e n sz : Nat} {v : Value} {xs : List Value} (h : w.ownsRow base e sz v n xs) : ∃ a c, v = .slice a n c := by
  obtain ⟨_, ⟨hv, h0⟩ | ⟨g, cap, cur, hv, _⟩⟩ := h
  · exact ⟨none, 0, by rw [hv, h0]⟩
  · exact ⟨_, _, hv⟩
theorem addP_kind {ps : List Prt} {p : Prt} (h : (p.kind == 1) = false) : addP ps p = ps ++ [p] := by
  rcases List.eq_nil_or_concat ps with rfl | ⟨qs, q, rfl⟩
  · rfl
  · obtain ⟨k, t, q, o, c, s⟩ := q
    rw [List.concat_eq_append, addP_snoc, if_neg]
    · simp
    · rintro ⟨_, e, _⟩
      rw [e] at h
      cases h
set_option maxRecDepth 100000 in
set_option maxHeartbeats 40000000 in
theorem radd_any (w : World) (b : Nat) (X A : Nat → Prop) (ps : List Prt) (er : Int) (x : Value) (p : Prt) (h : RWt w b X ps er) (hx : PV w A x p) (hA : ∀ k, A k → InW b X w k) (hl : ps.length ≤ 100000) (ht : tlen ps + p.text.length ≤ 1000000) :
    Calls Tryz.prog 28 #[.pointer (some ⟨b, 0, none⟩), x] w fun e w' => e = .returned (.tuple #[]) ∧ RAdds w b X (addP ps p) er w' := by
  obtain ⟨iT, hiT, hzT0, hzT1, hzT2⟩ := info_of info_part
  obtain ⟨L2, pv, h, hps⟩ := h
  obtain ⟨v, rfl, hsub⟩ := hx
  obtain ⟨va, vc, rfl, _⟩ := hsub.len
  obtain ⟨vn, hvn⟩ : ∃ n, n = p.sub.length := ⟨_, rfl⟩
  rw [← hvn] at hsub ⊢
  obtain ⟨n, hn⟩ : ∃ n, L2.length = n := ⟨_, rfl⟩
  have hrow := h.row
  rw [hn] at hrow
  obtain ⟨ad, cap, rfl⟩ := own_slice hrow
  have hnl : n ≤ 100000 := by have := congrArg List.length hps; rw [List.length_map] at this; omega
  have HN := hide hn
  have HPS := hide hps
  have HBL0 : Hid (b < w.heap.size) := hide h.blk.lt
  have HXQ : Hid (¬ X w.heap.size) := hide (fun e => by have := h.hi _ e; omega)
  have HS0 : Hid (WAt w A (.slice va vn vc) p.sub ∧ ∀ k, A k → InW b X w k) := hide ⟨hsub, hA⟩
  have H0 := hide h
  have hblt : b < w.heap.size := h.blk.lt
  have b0 : (w.alloc (.cells #[.int .i64 p.kind, .string (BA p.text), .bool p.quote, .int .i64 p.op, .bool p.colon, .slice va vn vc] 37)).cell? ⟨b, 0, none⟩ = some (.slice ad n cap) := cell_alloc (h.blk.cell 0 rfl) _
  have HTL := hide ht
  clear hvn hsub hA hrow hl
  cases hk : (p.kind == 1) with
  | false =>
    have HNO : Hid (addP ps p = ps ++ [p]) := hide (addP_kind hk)
    clear h hn hps ht
    go_enter Tryz.func28, Tryz.ntmps28
    go_wp2_with fail
    go_quiet (fail)
    go_wp2_with fail
    obtain ⟨w2, hw2⟩ : ∃ x, x = (w.alloc (.cells #[.int .i64 p.kind, .string (BA p.text), .bool p.quote, .int .i64 p.op, .bool p.colon, .slice va vn vc] 37)).drewN nq := ⟨_, rfl⟩
    have HB2 : Hid (Below w.heap.size w w2) := hide (by rw [hw2]; exact ((Below.refl _ w).alloc (Nat.le_refl _) _).trans ((below_drew _ _).mono (by simp)))
    have HBX : Hid (Box w2 w.heap.size p (.slice va vn vc)) := hide (by rw [hw2]; exact Blk.new w _ _)
    rw [← hw2]
    have hbw : b < w2.heap.size := by have h1 := (unhide HB2).size; have h2 := unhide HBL0; omega
    have HG2 : Hid (GrownS w w2 X) := hide (grownS_of_below (unhide HB2))
    have H2 : Hid (RWg w2 b X L2 (.slice ad n cap) er) := hide ((unhide H0).below (unhide HB2))
    clear hw2
    have hnn : (n : Int) < (n : Int) + 1 := by omega
    have HSUB : Hid (WAt w2 A (.slice va vn vc) p.sub) := hide ((unhide HS0).1.below (unhide HB2) (fun k hk => ((unhide HS0).2 k hk).2.1))
    have HIN : Hid (∀ k, A k → InW b X w2 k) := hide (fun k hk => ⟨((unhide HS0).2 k hk).1, Nat.lt_of_lt_of_le ((unhide HS0).2 k hk).2.1 (unhide HB2).size, ((unhide HS0).2 k hk).2.2⟩)
    have HROW : Hid (w2.ownsRow (b + 1) 37 6 (.slice ad n cap) n (flatP L2)) := hide (by have := (unhide H2).row; rwa [unhide HN] at this)
    have c0 : w2.cell? ⟨b, 0, none⟩ = some (.slice ad n cap) := (unhide H2).blk.cell 0 rfl
    refine wp_region_held_drew (S := fun w' => Box w' w.heap.size p (.slice va vn vc)) (by kernel_rfl) (by exact unhide HBX) (fun hHeld => ?_)
    refine wpAnyH_take (i := 0) (oi := { dst := some 63, op := Op.move (Operand.tmp 0), type := 57, pos := "ref.go:33", after := #[], guard := none }) (v := ?_) rfl (by kernel_rfl) (by kernel_rfl) (by kernel_rfl) (fun _ _ _ h => h) (Or.inl ⟨by rfl, ?_⟩) (by assumption) ?_
    rotate_left
    · intro w hSw; obtain ⟨s0, s1, s2, s3, s4, s5⟩ := Box.six hSw; go_simp; (try with_reducible rfl)
    simp only [Act.put, List.setIfInBounds_toArray, List.set_cons_zero, List.set_cons_succ]
    refine wpAnyH_take (i := 1) (oi := { dst := some 64, op := Op.nilCheck (Operand.tmp 63), type := 0, pos := "ref.go:33", after := #[⟨0, .data⟩], guard := none }) (v := ?_) rfl (by kernel_rfl) (by kernel_rfl) (by kernel_rfl) (fun _ _ _ h => h) (Or.inl ⟨by rfl, ?_⟩) (by assumption) ?_
    rotate_left
    · intro w hSw; obtain ⟨s0, s1, s2, s3, s4, s5⟩ := Box.six hSw; go_simp; (try with_reducible rfl)
    simp only [Act.put, List.setIfInBounds_toArray, List.set_cons_zero, List.set_cons_succ]
    refine wpAnyH_take (i := 2) (oi := { dst := some 65, op := Op.fieldAddr 59 (Operand.tmp 64) 0, type := 0, pos := "ref.go:33", after := #[⟨1, .data⟩], guard := none }) (v := ?_) rfl (by kernel_rfl) (by kernel_rfl) (by kernel_rfl) (fun _ _ _ h => h) (Or.inl ⟨by rfl, ?_⟩) (by assumption) ?_
    rotate_left
    · intro w hSw; obtain ⟨s0, s1, s2, s3, s4, s5⟩ := Box.six hSw; go_simp; (try with_reducible rfl)
    simp only [Act.put, List.setIfInBounds_toArray, List.set_cons_zero, List.set_cons_succ]
    refine wpAnyH_take (i := 4) (oi := { dst := some 67, op := Op.load 37 (Operand.tmp 3), type := 37, pos := "ref.go:33", after := #[], guard := none }) (v := ?_) rfl (by kernel_rfl) (by kernel_rfl) (by kernel_rfl) (fun _ _ _ h => h) (Or.inl ⟨by rfl, ?_⟩) (by assumption) ?_
    rotate_left
    · intro w hSw; obtain ⟨s0, s1, s2, s3, s4, s5⟩ := Box.six hSw; go_simp; (try with_reducible rfl)
    simp only [Act.put, List.setIfInBounds_toArray, List.set_cons_zero, List.set_cons_succ]
    refine wpAnyH_ready (rs := [3, 6]) (by kernel_rfl) (by simp) ?_
    refine AllReadyH.cons (o := { dst := some 66, op := Op.load 24 (Operand.tmp 65), type := 24, pos := "ref.go:33", after := #[⟨2, .data⟩], guard := none }) rfl (fun KK hKK => ?_) (AllReadyH.cons (o := { dst := some 69, op := Op.buildSlice 24 1 #[(0, Operand.const (Value.agg #[Value.int IntKind.i64 0, Value.string { data := #[] }, Value.bool false, Value.int IntKind.i64 0, Value.bool false, Value.slice none 0 0]))], type := 24, pos := "ref.go:33", after := #[], guard := none }) rfl (fun KK hKK => ?_) AllReadyH.nil)
    · go_simp
      refine hKK.out _ _ (by exact unhide HBX) (fun hHeld => ?_)
      clear hKK KK
      try simp only [Act.put, List.setIfInBounds_toArray, List.set_cons_zero, List.set_cons_succ]
      refine wpAnyH_take (i := 5) (oi := { dst := some 68, op := Op.call { callee := Callee.builtin Builtin.len, args := #[Operand.tmp 66], argTypes := #[24] }, type := 3, pos := "ref.go:33", after := #[⟨3, .data⟩], guard := none }) (v := ?_) rfl (by kernel_rfl) (by kernel_rfl) (by kernel_rfl) (fun _ _ _ h => h) (Or.inl ⟨by rfl, ?_⟩) (by assumption) ?_
      rotate_left
      · intro w hSw; obtain ⟨s0, s1, s2, s3, s4, s5⟩ := Box.six hSw; go_simp; (try with_reducible rfl)
      simp only [Act.put, List.setIfInBounds_toArray, List.set_cons_zero, List.set_cons_succ]
      refine wpAnyH_ready (rs := [6]) (by kernel_rfl) (by simp) ?_
      refine AllReadyH.cons (o := { dst := some 69, op := Op.buildSlice 24 1 #[(0, Operand.const (Value.agg #[Value.int IntKind.i64 0, Value.string { data := #[] }, Value.bool false, Value.int IntKind.i64 0, Value.bool false, Value.slice none 0 0]))], type := 24, pos := "ref.go:33", after := #[], guard := none }) rfl (fun KK hKK => ?_) AllReadyH.nil
      go_simp
      have c0a : (w2.alloc (.cells #[.int .i64 0, .string ⟨#[]⟩, .bool false, .int .i64 0, .bool false, .slice none 0 0] 37)).cell? ⟨b, 0, none⟩ = some (.slice ad n cap) := cell_alloc c0 _
      have HBX1 : Hid (Box (w2.alloc (.cells #[.int .i64 0, .string ⟨#[]⟩, .bool false, .int .i64 0, .bool false, .slice none 0 0] 37)) w.heap.size p (.slice va vn vc)) := hide (Blk.alloc (unhide HBX) _)
      refine hKK.out _ _ (by exact unhide HBX1) (fun hHeld => ?_)
      clear hKK KK
      try simp only [Act.put, List.setIfInBounds_toArray, List.set_cons_zero, List.set_cons_succ]
      refine wpAnyH_ready (rs := [7]) (by kernel_rfl) (by simp) ?_
      refine AllReadyH.cons (o := { dst := some 70, op := Op.call { callee := Callee.builtin Builtin.append, args := #[Operand.tmp 66, Operand.tmp 69], argTypes := #[24, 24] }, type := 24, pos := "ref.go:33", after := #[⟨3, .data⟩, ⟨6, .data⟩, ⟨0, .phase⟩, ⟨1, .phase⟩, ⟨2, .phase⟩, ⟨3, .phase⟩, ⟨4, .phase⟩, ⟨5, .phase⟩, ⟨6, .phase⟩], guard := none }) rfl (fun KK hKK => ?_) AllReadyH.nil
      refine step_append_lies _ (by rfl) _ _ _ (by rfl) (b + 1) 37 iT _ 6 72 und_word hiT hzT0 hzT1 hzT2 rfl (by decide) (.slice ad n cap) n (flatP L2) (by simp [Act.eval]) (own_drew (World.ownsRow.alloc (unhide HROW) _)) ⟨w2.heap.size, 0, none⟩ 1 1 [.int .i64 0, .string ⟨#[]⟩, .bool false, .int .i64 0, .bool false, .slice none 0 0] (by simp [Act.eval]) rfl six_cells zero_is (by decide) (by unfold maxLen; omega) (by omega) (by simp; omega) (w2.heap.size + 1) (by simp) ?_
      intro g cg w3 hown3 hgrow hat hlt3
      have HM := hide (radd_mid (unhide H2) hown3 hgrow hat (unhide HBX) (unhide HXQ))
      have HO3 := hide hown3
      have d0 : w3.cell? ⟨b, 0, none⟩ = some (.slice ad n cap) := (unhide HM).blk.cell 0 rfl
      have z0 : w3.frozen? ⟨b, 0, none⟩ = false := (unhide HM).blk.frozen 0
      have e0 := own_cell (j := n * 6) (unhide HO3) (zero_at (unhide HN) 0)
      have e1 := own_cell (j := n * 6 + 1) (unhide HO3) (zero_at (unhide HN) 1)
      have e2 := own_cell (j := n * 6 + 2) (unhide HO3) (zero_at (unhide HN) 2)
      have e3 := own_cell (j := n * 6 + 3) (unhide HO3) (zero_at (unhide HN) 3)
      have e4 := own_cell (j := n * 6 + 4) (unhide HO3) (zero_at (unhide HN) 4)
      have e5 := own_cell (j := n * 6 + 5) (unhide HO3) (zero_at (unhide HN) 5)
      obtain ⟨e0a, e0b⟩ := e0
      obtain ⟨e1a, e1b⟩ := e1
      obtain ⟨e2a, e2b⟩ := e2
      obtain ⟨e3a, e3b⟩ := e3
      obtain ⟨e4a, e4b⟩ := e4
      obtain ⟨e5a, e5b⟩ := e5
      clear hown3 hgrow hat hlt3
      refine hKK.out _ _ (by exact (unhide HM).box) (fun hHeld => ?_)
      clear hKK KK
      try simp only [Act.put, List.setIfInBounds_toArray, List.set_cons_zero, List.set_cons_succ]
      refine wpAnyH_take (i := 8) (oi := { dst := some 71, op := Op.indexAddr 24 (Operand.tmp 70) (Operand.tmp 68), type := 0, pos := "ref.go:33", after := #[⟨7, .data⟩, ⟨5, .data⟩, ⟨0, .phase⟩, ⟨1, .phase⟩, ⟨2, .phase⟩, ⟨3, .phase⟩, ⟨4, .phase⟩, ⟨5, .phase⟩, ⟨6, .phase⟩, ⟨7, .phase⟩, { on := 12, ground := Ground.gcOnly Departure.appendInPlace }], guard := none }) (v := ?_) rfl (by kernel_rfl) (by kernel_rfl) (by kernel_rfl) (fun _ _ _ h => h) (Or.inl ⟨by rfl, ?_⟩) (by assumption) ?_
      rotate_left
      · intro w hSw; obtain ⟨s0, s1, s2, s3, s4, s5⟩ := Box.six hSw; go_simp; (try with_reducible rfl)
      simp only [Act.put, List.setIfInBounds_toArray, List.set_cons_zero, List.set_cons_succ]
      refine wpAnyH_take (i := 10) (oi := { dst := some 72, op := Op.nilCheck (Operand.tmp 63), type := 0, pos := "ref.go:33", after := #[⟨0, .data⟩, ⟨0, .phase⟩, ⟨1, .phase⟩, ⟨2, .phase⟩, ⟨3, .phase⟩, ⟨4, .phase⟩, ⟨5, .phase⟩, ⟨6, .phase⟩, ⟨7, .phase⟩, { on := 8, ground := Ground.textOnly Departure.appendInPlace }, { on := 9, ground := Ground.textOnly Departure.appendInPlace }], guard := none }) (v := ?_) rfl (by kernel_rfl) (by kernel_rfl) (by kernel_rfl) (fun _ _ _ h => h) (Or.inl ⟨by rfl, ?_⟩) (by assumption) ?_
      rotate_left
      · intro w hSw; obtain ⟨s0, s1, s2, s3, s4, s5⟩ := Box.six hSw; go_simp; (try with_reducible rfl)
      simp only [Act.put, List.setIfInBounds_toArray, List.set_cons_zero, List.set_cons_succ]
      refine wpAnyH_take (i := 11) (oi := { dst := some 73, op := Op.fieldAddr 59 (Operand.tmp 72) 0, type := 0, pos := "ref.go:33", after := #[⟨10, .data⟩, ⟨0, .phase⟩, ⟨1, .phase⟩, ⟨2, .phase⟩, ⟨3, .phase⟩, ⟨4, .phase⟩, ⟨5, .phase⟩, ⟨6, .phase⟩, ⟨7, .phase⟩, { on := 8, ground := Ground.textOnly Departure.appendInPlace }, { on := 9, ground := Ground.textOnly Departure.appendInPlace }], guard := none }) (v := ?_) rfl (by kernel_rfl) (by kernel_rfl) (by kernel_rfl) (fun _ _ _ h => h) (Or.inl ⟨by rfl, ?_⟩) (by assumption) ?_
      rotate_left
      · intro w hSw; obtain ⟨s0, s1, s2, s3, s4, s5⟩ := Box.six hSw; go_simp; (try with_reducible rfl)
      simp only [Act.put, List.setIfInBounds_toArray, List.set_cons_zero, List.set_cons_succ]
      refine wpAnyH_ready (rs := [9, 12]) (by kernel_rfl) (by simp) ?_
      refine AllReadyH.cons (o := { dst := none, op := Op.store 37 (Operand.tmp 71) (Operand.tmp 67), type := 0, pos := "ref.go:33", after := #[⟨8, .data⟩, ⟨4, .data⟩, ⟨7, .chain⟩, ⟨0, .phase⟩, ⟨1, .phase⟩, ⟨2, .phase⟩, ⟨3, .phase⟩, ⟨4, .phase⟩, ⟨5, .phase⟩, ⟨6, .phase⟩, ⟨7, .phase⟩, { on := 12, ground := Ground.gcOnly Departure.appendInPlace }], guard := none }) rfl (fun KK hKK => ?_) (AllReadyH.cons (o := { dst := none, op := Op.store 24 (Operand.tmp 73) (Operand.tmp 70), type := 0, pos := "ref.go:33", after := #[⟨11, .data⟩, ⟨7, .data⟩, ⟨7, .chain⟩, { on := 9, ground := Ground.textOnly Departure.appendInPlace }, ⟨0, .phase⟩, ⟨1, .phase⟩, ⟨2, .phase⟩, ⟨3, .phase⟩, ⟨4, .phase⟩, ⟨5, .phase⟩, ⟨6, .phase⟩, ⟨7, .phase⟩, { on := 8, ground := Ground.textOnly Departure.appendInPlace }, { on := 9, ground := Ground.textOnly Departure.appendInPlace }], guard := none }) rfl (fun KK hKK => ?_) AllReadyH.nil)
      · go_simp
        have d0A : ((((((w3.setCell ⟨g, n * 6, none⟩ (.int .i64 p.kind)).setCell ⟨g, n * 6 + 1, none⟩ (.string (BA p.text))).setCell ⟨g, n * 6 + 2, none⟩ (.bool p.quote)).setCell ⟨g, n * 6 + 3, none⟩ (.int .i64 p.op)).setCell ⟨g, n * 6 + 4, none⟩ (.bool p.colon)).setCell ⟨g, n * 6 + 5, none⟩ (.slice va vn vc)).cell? ⟨b, 0, none⟩ = some (.slice ad n cap) := Blk.cell (show Blk (T6 w3 g (n * 6) (.int .i64 p.kind) (.string (BA p.text)) (.bool p.quote) (.int .i64 p.op) (.bool p.colon) (.slice va vn vc)) b 59 _ from (unhide HM).blk.grownS (T6_grown ..) (unhide HM).bg) 0 rfl
        have z0A : ((((((w3.setCell ⟨g, n * 6, none⟩ (.int .i64 p.kind)).setCell ⟨g, n * 6 + 1, none⟩ (.string (BA p.text))).setCell ⟨g, n * 6 + 2, none⟩ (.bool p.quote)).setCell ⟨g, n * 6 + 3, none⟩ (.int .i64 p.op)).setCell ⟨g, n * 6 + 4, none⟩ (.bool p.colon)).setCell ⟨g, n * 6 + 5, none⟩ (.slice va vn vc)).frozen? ⟨b, 0, none⟩ = false := Blk.frozen (show Blk (T6 w3 g (n * 6) (.int .i64 p.kind) (.string (BA p.text)) (.bool p.quote) (.int .i64 p.op) (.bool p.colon) (.slice va vn vc)) b 59 _ from (unhide HM).blk.grownS (T6_grown ..) (unhide HM).bg) 0
        refine hKK.out _ _ (by exact show Box (T6 w3 g (n * 6) (.int .i64 p.kind) (.string (BA p.text)) (.bool p.quote) (.int .i64 p.op) (.bool p.colon) (.slice va vn vc)) w.heap.size p (.slice va vn vc) from Blk.grownS (unhide HM).box (T6_grown ..) (unhide HM).qg) (fun hHeld => ?_)
        clear hKK KK
        try simp only [Act.put, List.setIfInBounds_toArray, List.set_cons_zero, List.set_cons_succ]
        refine wpAnyH_ready (rs := [12]) (by kernel_rfl) (by simp) ?_
        refine AllReadyH.cons (o := { dst := none, op := Op.store 24 (Operand.tmp 73) (Operand.tmp 70), type := 0, pos := "ref.go:33", after := #[⟨11, .data⟩, ⟨7, .data⟩, ⟨7, .chain⟩, { on := 9, ground := Ground.textOnly Departure.appendInPlace }, ⟨0, .phase⟩, ⟨1, .phase⟩, ⟨2, .phase⟩, ⟨3, .phase⟩, ⟨4, .phase⟩, ⟨5, .phase⟩, ⟨6, .phase⟩, ⟨7, .phase⟩, { on := 8, ground := Ground.textOnly Departure.appendInPlace }, { on := 9, ground := Ground.textOnly Departure.appendInPlace }], guard := none }) rfl (fun KK hKK => ?_) AllReadyH.nil
        go_simp
        refine hKK.out _ _ (by exact show Box ((T6 w3 g (n * 6) (.int .i64 p.kind) (.string (BA p.text)) (.bool p.quote) (.int .i64 p.op) (.bool p.colon) (.slice va vn vc)).setCell ⟨b, 0, none⟩ (.slice (some ⟨g, 0, none⟩) (n + 1) cg)) w.heap.size p (.slice va vn vc) from Blk.grownS (Blk.grownS (unhide HM).box (T6_grown ..) (unhide HM).qg) (setb_grown _ _ _ _) (unhide HM).qb) (fun hHeld => ?_)
        clear hKK KK
        try simp only [Act.put, List.setIfInBounds_toArray, List.set_cons_zero, List.set_cons_succ]
        clear hHeld
        refine wpAnyH_done (by kernel_rfl) ?_ _
        obtain ⟨w5, hw5⟩ : ∃ x, x = (((((((w3.setCell ⟨g, n * 6, none⟩ (.int .i64 p.kind)).setCell ⟨g, n * 6 + 1, none⟩ (.string (BA p.text))).setCell ⟨g, n * 6 + 2, none⟩ (.bool p.quote)).setCell ⟨g, n * 6 + 3, none⟩ (.int .i64 p.op)).setCell ⟨g, n * 6 + 4, none⟩ (.bool p.colon)).setCell ⟨g, n * 6 + 5, none⟩ (.slice va vn vc)).setCell ⟨b, 0, none⟩ (.slice (some ⟨g, 0, none⟩) (n + 1) cg)) := ⟨_, rfl⟩
        have H5 : Hid (RAdds w b X (ps ++ [p]) er w5) := hide (by rw [hw5]; exact RAdds.trans (unhide HG2) (fun _ h => .inl h) ⟨_, ⟨_, _, (radd_finA (unhide HM) (unhide H2) (unhide HN) (unhide HO3) (unhide HSUB) (unhide HIN)).1, by rw [List.map_append, unhide HPS]; rfl⟩, (radd_finA (unhide HM) (unhide H2) (unhide HN) (unhide HO3) (unhide HSUB) (unhide HIN)).2, rmid_x (unhide HM) (unhide H2)⟩)
        rw [← hw5]
        go_wp2
        first | refine bodyPost_end (res0 rfl _ _) rfl ?_ | refine bodyPost_ret (res0 rfl _ _) rfl ?_
        exact ⟨rfl, by rw [unhide HNO]; exact unhide H5⟩
      · go_simp
        have HOB : Hid (World.ownsRow (w3.setCell ⟨b, 0, none⟩ (.slice (some ⟨g, 0, none⟩) (n + 1) cg)) (b + 1) 37 6 (.slice (some ⟨g, 0, none⟩) (n + 1) cg) (n + 1) (flatP L2 ++ [.int .i64 0, .string ⟨#[]⟩, .bool false, .int .i64 0, .bool false, .slice none 0 0])) := hide (own_grownS (unhide HO3) (setb_grown _ _ _ _) (fun k hk e => (unhide HM).bg ((ownb hk).trans e).symm))
        have t0 := own_cell (j := n * 6) (unhide HOB) (zero_at (unhide HN) 0)
        have t1 := own_cell (j := n * 6 + 1) (unhide HOB) (zero_at (unhide HN) 1)
        have t2 := own_cell (j := n * 6 + 2) (unhide HOB) (zero_at (unhide HN) 2)
        have t3 := own_cell (j := n * 6 + 3) (unhide HOB) (zero_at (unhide HN) 3)
        have t4 := own_cell (j := n * 6 + 4) (unhide HOB) (zero_at (unhide HN) 4)
        have t5 := own_cell (j := n * 6 + 5) (unhide HOB) (zero_at (unhide HN) 5)
        obtain ⟨t0a, t0b⟩ := t0
        obtain ⟨t1a, t1b⟩ := t1
        obtain ⟨t2a, t2b⟩ := t2
        obtain ⟨t3a, t3b⟩ := t3
        obtain ⟨t4a, t4b⟩ := t4
        obtain ⟨t5a, t5b⟩ := t5
        refine hKK.out _ _ (by exact Blk.grownS (unhide HM).box (setb_grown _ _ _ _) (unhide HM).qb) (fun hHeld => ?_)
        clear hKK KK
        try simp only [Act.put, List.setIfInBounds_toArray, List.set_cons_zero, List.set_cons_succ]
        refine wpAnyH_ready (rs := [9]) (by kernel_rfl) (by simp) ?_
        refine AllReadyH.cons (o := { dst := none, op := Op.store 37 (Operand.tmp 71) (Operand.tmp 67), type := 0, pos := "ref.go:33", after := #[⟨8, .data⟩, ⟨4, .data⟩, ⟨7, .chain⟩, ⟨0, .phase⟩, ⟨1, .phase⟩, ⟨2, .phase⟩, ⟨3, .phase⟩, ⟨4, .phase⟩, ⟨5, .phase⟩, ⟨6, .phase⟩, ⟨7, .phase⟩, { on := 12, ground := Ground.gcOnly Departure.appendInPlace }], guard := none }) rfl (fun KK hKK => ?_) AllReadyH.nil
        go_simp
        refine hKK.out _ _ (by exact show Box (T6 (w3.setCell ⟨b, 0, none⟩ (.slice (some ⟨g, 0, none⟩) (n + 1) cg)) g (n * 6) (.int .i64 p.kind) (.string (BA p.text)) (.bool p.quote) (.int .i64 p.op) (.bool p.colon) (.slice va vn vc)) w.heap.size p (.slice va vn vc) from Blk.grownS (Blk.grownS (unhide HM).box (setb_grown _ _ _ _) (unhide HM).qb) (T6_grown ..) (unhide HM).qg) (fun hHeld => ?_)
        clear hKK KK
        try simp only [Act.put, List.setIfInBounds_toArray, List.set_cons_zero, List.set_cons_succ]
        clear hHeld
        refine wpAnyH_done (by kernel_rfl) ?_ _
        obtain ⟨w5, hw5⟩ : ∃ x, x = (((((((w3.setCell ⟨b, 0, none⟩ (.slice (some ⟨g, 0, none⟩) (n + 1) cg)).setCell ⟨g, n * 6, none⟩ (.int .i64 p.kind)).setCell ⟨g, n * 6 + 1, none⟩ (.string (BA p.text))).setCell ⟨g, n * 6 + 2, none⟩ (.bool p.quote)).setCell ⟨g, n * 6 + 3, none⟩ (.int .i64 p.op)).setCell ⟨g, n * 6 + 4, none⟩ (.bool p.colon)).setCell ⟨g, n * 6 + 5, none⟩ (.slice va vn vc)) := ⟨_, rfl⟩
        have H5 : Hid (RAdds w b X (ps ++ [p]) er w5) := hide (by rw [hw5]; exact RAdds.trans (unhide HG2) (fun _ h => .inl h) ⟨_, ⟨_, _, (radd_finB (unhide HM) (unhide H2) (unhide HN) (unhide HO3) (unhide HSUB) (unhide HIN)).1, by rw [List.map_append, unhide HPS]; rfl⟩, (radd_finB (unhide HM) (unhide H2) (unhide HN) (unhide HO3) (unhide HSUB) (unhide HIN)).2, rmid_x (unhide HM) (unhide H2)⟩)
        rw [← hw5]
        go_wp2
        first | refine bodyPost_end (res0 rfl _ _) rfl ?_ | refine bodyPost_ret (res0 rfl _ _) rfl ?_
        exact ⟨rfl, by rw [unhide HNO]; exact unhide H5⟩
    · go_simp
      have c0a : (w2.alloc (.cells #[.int .i64 0, .string ⟨#[]⟩, .bool false, .int .i64 0, .bool false, .slice none 0 0] 37)).cell? ⟨b, 0, none⟩ = some (.slice ad n cap) := cell_alloc c0 _
      have HBX1 : Hid (Box (w2.alloc (.cells #[.int .i64 0, .string ⟨#[]⟩, .bool false, .int .i64 0, .bool false, .slice none 0 0] 37)) w.heap.size p (.slice va vn vc)) := hide (Blk.alloc (unhide HBX) _)
      refine hKK.out _ _ (by exact unhide HBX1) (fun hHeld => ?_)
      clear hKK KK
      try simp only [Act.put, List.setIfInBounds_toArray, List.set_cons_zero, List.set_cons_succ]
      refine wpAnyH_ready (rs := [3]) (by kernel_rfl) (by simp) ?_
      refine AllReadyH.cons (o := { dst := some 66, op := Op.load 24 (Operand.tmp 65), type := 24, pos := "ref.go:33", after := #[⟨2, .data⟩], guard := none }) rfl (fun KK hKK => ?_) AllReadyH.nil
      go_simp
      refine hKK.out _ _ (by exact unhide HBX1) (fun hHeld => ?_)
      clear hKK KK
      try simp only [Act.put, List.setIfInBounds_toArray, List.set_cons_zero, List.set_cons_succ]
      refine wpAnyH_take (i := 5) (oi := { dst := some 68, op := Op.call { callee := Callee.builtin Builtin.len, args := #[Operand.tmp 66], argTypes := #[24] }, type := 3, pos := "ref.go:33", after := #[⟨3, .data⟩], guard := none }) (v := ?_) rfl (by kernel_rfl) (by kernel_rfl) (by kernel_rfl) (fun _ _ _ h => h) (Or.inl ⟨by rfl, ?_⟩) (by assumption) ?_
      rotate_left
      · intro w hSw; obtain ⟨s0, s1, s2, s3, s4, s5⟩ := Box.six hSw; go_simp; (try with_reducible rfl)
      simp only [Act.put, List.setIfInBounds_toArray, List.set_cons_zero, List.set_cons_succ]
      refine wpAnyH_ready (rs := [7]) (by kernel_rfl) (by simp) ?_
      refine AllReadyH.cons (o := { dst := some 70, op := Op.call { callee := Callee.builtin Builtin.append, args := #[Operand.tmp 66, Operand.tmp 69], argTypes := #[24, 24] }, type := 24, pos := "ref.go:33", after := #[⟨3, .data⟩, ⟨6, .data⟩, ⟨0, .phase⟩, ⟨1, .phase⟩, ⟨2, .phase⟩, ⟨3, .phase⟩, ⟨4, .phase⟩, ⟨5, .phase⟩, ⟨6, .phase⟩], guard := none }) rfl (fun KK hKK => ?_) AllReadyH.nil
      refine step_append_lies _ (by rfl) _ _ _ (by rfl) (b + 1) 37 iT _ 6 72 und_word hiT hzT0 hzT1 hzT2 rfl (by decide) (.slice ad n cap) n (flatP L2) (by simp [Act.eval]) (own_drew (World.ownsRow.alloc (unhide HROW) _)) ⟨w2.heap.size, 0, none⟩ 1 1 [.int .i64 0, .string ⟨#[]⟩, .bool false, .int .i64 0, .bool false, .slice none 0 0] (by simp [Act.eval]) rfl six_cells zero_is (by decide) (by unfold maxLen; omega) (by omega) (by simp; omega) (w2.heap.size + 1) (by simp) ?_
      intro g cg w3 hown3 hgrow hat hlt3
      have HM := hide (radd_mid (unhide H2) hown3 hgrow hat (unhide HBX) (unhide HXQ))
      have HO3 := hide hown3
      have d0 : w3.cell? ⟨b, 0, none⟩ = some (.slice ad n cap) := (unhide HM).blk.cell 0 rfl
      have z0 : w3.frozen? ⟨b, 0, none⟩ = false := (unhide HM).blk.frozen 0
      have e0 := own_cell (j := n * 6) (unhide HO3) (zero_at (unhide HN) 0)
      have e1 := own_cell (j := n * 6 + 1) (unhide HO3) (zero_at (unhide HN) 1)
      have e2 := own_cell (j := n * 6 + 2) (unhide HO3) (zero_at (unhide HN) 2)
      have e3 := own_cell (j := n * 6 + 3) (unhide HO3) (zero_at (unhide HN) 3)
      have e4 := own_cell (j := n * 6 + 4) (unhide HO3) (zero_at (unhide HN) 4)
      have e5 := own_cell (j := n * 6 + 5) (unhide HO3) (zero_at (unhide HN) 5)
      obtain ⟨e0a, e0b⟩ := e0
      obtain ⟨e1a, e1b⟩ := e1
      obtain ⟨e2a, e2b⟩ := e2
      obtain ⟨e3a, e3b⟩ := e3
      obtain ⟨e4a, e4b⟩ := e4
      obtain ⟨e5a, e5b⟩ := e5
      clear hown3 hgrow hat hlt3
      refine hKK.out _ _ (by exact (unhide HM).box) (fun hHeld => ?_)
      clear hKK KK
      try simp only [Act.put, List.setIfInBounds_toArray, List.set_cons_zero, List.set_cons_succ]
      refine wpAnyH_take (i := 8) (oi := { dst := some 71, op := Op.indexAddr 24 (Operand.tmp 70) (Operand.tmp 68), type := 0, pos := "ref.go:33", after := #[⟨7, .data⟩, ⟨5, .data⟩, ⟨0, .phase⟩, ⟨1, .phase⟩, ⟨2, .phase⟩, ⟨3, .phase⟩, ⟨4, .phase⟩, ⟨5, .phase⟩, ⟨6, .phase⟩, ⟨7, .phase⟩, { on := 12, ground := Ground.gcOnly Departure.appendInPlace }], guard := none }) (v := ?_) rfl (by kernel_rfl) (by kernel_rfl) (by kernel_rfl) (fun _ _ _ h => h) (Or.inl ⟨by rfl, ?_⟩) (by assumption) ?_
      rotate_left
      · intro w hSw; obtain ⟨s0, s1, s2, s3, s4, s5⟩ := Box.six hSw; go_simp; (try with_reducible rfl)
      simp only [Act.put, List.setIfInBounds_toArray, List.set_cons_zero, List.set_cons_succ]
      refine wpAnyH_take (i := 10) (oi := { dst := some 72, op := Op.nilCheck (Operand.tmp 63), type := 0, pos := "ref.go:33", after := #[⟨0, .data⟩, ⟨0, .phase⟩, ⟨1, .phase⟩, ⟨2, .phase⟩, ⟨3, .phase⟩, ⟨4, .phase⟩, ⟨5, .phase⟩, ⟨6, .phase⟩, ⟨7, .phase⟩, { on := 8, ground := Ground.textOnly Departure.appendInPlace }, { on := 9, ground := Ground.textOnly Departure.appendInPlace }], guard := none }) (v := ?_) rfl (by kernel_rfl) (by kernel_rfl) (by kernel_rfl) (fun _ _ _ h => h) (Or.inl ⟨by rfl, ?_⟩) (by assumption) ?_
      rotate_left
      · intro w hSw; obtain ⟨s0, s1, s2, s3, s4, s5⟩ := Box.six hSw; go_simp; (try with_reducible rfl)
      simp only [Act.put, List.setIfInBounds_toArray, List.set_cons_zero, List.set_cons_succ]
      refine wpAnyH_take (i := 11) (oi := { dst := some 73, op := Op.fieldAddr 59 (Operand.tmp 72) 0, type := 0, pos := "ref.go:33", after := #[⟨10, .data⟩, ⟨0, .phase⟩, ⟨1, .phase⟩, ⟨2, .phase⟩, ⟨3, .phase⟩, ⟨4, .phase⟩, ⟨5, .phase⟩, ⟨6, .phase⟩, ⟨7, .phase⟩, { on := 8, ground := Ground.textOnly Departure.appendInPlace }, { on := 9, ground := Ground.textOnly Departure.appendInPlace }], guard := none }) (v := ?_) rfl (by kernel_rfl) (by kernel_rfl) (by kernel_rfl) (fun _ _ _ h => h) (Or.inl ⟨by rfl, ?_⟩) (by assumption) ?_
      rotate_left
      · intro w hSw; obtain ⟨s0, s1, s2, s3, s4, s5⟩ := Box.six hSw; go_simp; (try with_reducible rfl)
      simp only [Act.put, List.setIfInBounds_toArray, List.set_cons_zero, List.set_cons_succ]
      refine wpAnyH_ready (rs := [9, 12]) (by kernel_rfl) (by simp) ?_
      refine AllReadyH.cons (o := { dst := none, op := Op.store 37 (Operand.tmp 71) (Operand.tmp 67), type := 0, pos := "ref.go:33", after := #[⟨8, .data⟩, ⟨4, .data⟩, ⟨7, .chain⟩, ⟨0, .phase⟩, ⟨1, .phase⟩, ⟨2, .phase⟩, ⟨3, .phase⟩, ⟨4, .phase⟩, ⟨5, .phase⟩, ⟨6, .phase⟩, ⟨7, .phase⟩, { on := 12, ground := Ground.gcOnly Departure.appendInPlace }], guard := none }) rfl (fun KK hKK => ?_) (AllReadyH.cons (o := { dst := none, op := Op.store 24 (Operand.tmp 73) (Operand.tmp 70), type := 0, pos := "ref.go:33", after := #[⟨11, .data⟩, ⟨7, .data⟩, ⟨7, .chain⟩, { on := 9, ground := Ground.textOnly Departure.appendInPlace }, ⟨0, .phase⟩, ⟨1, .phase⟩, ⟨2, .phase⟩, ⟨3, .phase⟩, ⟨4, .phase⟩, ⟨5, .phase⟩, ⟨6, .phase⟩, ⟨7, .phase⟩, { on := 8, ground := Ground.textOnly Departure.appendInPlace }, { on := 9, ground := Ground.textOnly Departure.appendInPlace }], guard := none }) rfl (fun KK hKK => ?_) AllReadyH.nil)
      · go_simp
        have d0A : ((((((w3.setCell ⟨g, n * 6, none⟩ (.int .i64 p.kind)).setCell ⟨g, n * 6 + 1, none⟩ (.string (BA p.text))).setCell ⟨g, n * 6 + 2, none⟩ (.bool p.quote)).setCell ⟨g, n * 6 + 3, none⟩ (.int .i64 p.op)).setCell ⟨g, n * 6 + 4, none⟩ (.bool p.colon)).setCell ⟨g, n * 6 + 5, none⟩ (.slice va vn vc)).cell? ⟨b, 0, none⟩ = some (.slice ad n cap) := Blk.cell (show Blk (T6 w3 g (n * 6) (.int .i64 p.kind) (.string (BA p.text)) (.bool p.quote) (.int .i64 p.op) (.bool p.colon) (.slice va vn vc)) b 59 _ from (unhide HM).blk.grownS (T6_grown ..) (unhide HM).bg) 0 rfl
        have z0A : ((((((w3.setCell ⟨g, n * 6, none⟩ (.int .i64 p.kind)).setCell ⟨g, n * 6 + 1, none⟩ (.string (BA p.text))).setCell ⟨g, n * 6 + 2, none⟩ (.bool p.quote)).setCell ⟨g, n * 6 + 3, none⟩ (.int .i64 p.op)).setCell ⟨g, n * 6 + 4, none⟩ (.bool p.colon)).setCell ⟨g, n * 6 + 5, none⟩ (.slice va vn vc)).frozen? ⟨b, 0, none⟩ = false := Blk.frozen (show Blk (T6 w3 g (n * 6) (.int .i64 p.kind) (.string (BA p.text)) (.bool p.quote) (.int .i64 p.op) (.bool p.colon) (.slice va vn vc)) b 59 _ from (unhide HM).blk.grownS (T6_grown ..) (unhide HM).bg) 0
        refine hKK.out _ _ (by exact show Box (T6 w3 g (n * 6) (.int .i64 p.kind) (.string (BA p.text)) (.bool p.quote) (.int .i64 p.op) (.bool p.colon) (.slice va vn vc)) w.heap.size p (.slice va vn vc) from Blk.grownS (unhide HM).box (T6_grown ..) (unhide HM).qg) (fun hHeld => ?_)
        clear hKK KK
        try simp only [Act.put, List.setIfInBounds_toArray, List.set_cons_zero, List.set_cons_succ]
        refine wpAnyH_ready (rs := [12]) (by kernel_rfl) (by simp) ?_
        refine AllReadyH.cons (o := { dst := none, op := Op.store 24 (Operand.tmp 73) (Operand.tmp 70), type := 0, pos := "ref.go:33", after := #[⟨11, .data⟩, ⟨7, .data⟩, ⟨7, .chain⟩, { on := 9, ground := Ground.textOnly Departure.appendInPlace }, ⟨0, .phase⟩, ⟨1, .phase⟩, ⟨2, .phase⟩, ⟨3, .phase⟩, ⟨4, .phase⟩, ⟨5, .phase⟩, ⟨6, .phase⟩, ⟨7, .phase⟩, { on := 8, ground := Ground.textOnly Departure.appendInPlace }, { on := 9, ground := Ground.textOnly Departure.appendInPlace }], guard := none }) rfl (fun KK hKK => ?_) AllReadyH.nil
        go_simp
        refine hKK.out _ _ (by exact show Box ((T6 w3 g (n * 6) (.int .i64 p.kind) (.string (BA p.text)) (.bool p.quote) (.int .i64 p.op) (.bool p.colon) (.slice va vn vc)).setCell ⟨b, 0, none⟩ (.slice (some ⟨g, 0, none⟩) (n + 1) cg)) w.heap.size p (.slice va vn vc) from Blk.grownS (Blk.grownS (unhide HM).box (T6_grown ..) (unhide HM).qg) (setb_grown _ _ _ _) (unhide HM).qb) (fun hHeld => ?_)
        clear hKK KK
        try simp only [Act.put, List.setIfInBounds_toArray, List.set_cons_zero, List.set_cons_succ]
        clear hHeld
        refine wpAnyH_done (by kernel_rfl) ?_ _
        obtain ⟨w5, hw5⟩ : ∃ x, x = (((((((w3.setCell ⟨g, n * 6, none⟩ (.int .i64 p.kind)).setCell ⟨g, n * 6 + 1, none⟩ (.string (BA p.text))).setCell ⟨g, n * 6 + 2, none⟩ (.bool p.quote)).setCell ⟨g, n * 6 + 3, none⟩ (.int .i64 p.op)).setCell ⟨g, n * 6 + 4, none⟩ (.bool p.colon)).setCell ⟨g, n * 6 + 5, none⟩ (.slice va vn vc)).setCell ⟨b, 0, none⟩ (.slice (some ⟨g, 0, none⟩) (n + 1) cg)) := ⟨_, rfl⟩
        have H5 : Hid (RAdds w b X (ps ++ [p]) er w5) := hide (by rw [hw5]; exact RAdds.trans (unhide HG2) (fun _ h => .inl h) ⟨_, ⟨_, _, (radd_finA (unhide HM) (unhide H2) (unhide HN) (unhide HO3) (unhide HSUB) (unhide HIN)).1, by rw [List.map_append, unhide HPS]; rfl⟩, (radd_finA (unhide HM) (unhide H2) (unhide HN) (unhide HO3) (unhide HSUB) (unhide HIN)).2, rmid_x (unhide HM) (unhide H2)⟩)
        rw [← hw5]
        go_wp2
        first | refine bodyPost_end (res0 rfl _ _) rfl ?_ | refine bodyPost_ret (res0 rfl _ _) rfl ?_
        exact ⟨rfl, by rw [unhide HNO]; exact unhide H5⟩
      · go_simp
        have HOB : Hid (World.ownsRow (w3.setCell ⟨b, 0, none⟩ (.slice (some ⟨g, 0, none⟩) (n + 1) cg)) (b + 1) 37 6 (.slice (some ⟨g, 0, none⟩) (n + 1) cg) (n + 1) (flatP L2 ++ [.int .i64 0, .string ⟨#[]⟩, .bool false, .int .i64 0, .bool false, .slice none 0 0])) := hide (own_grownS (unhide HO3) (setb_grown _ _ _ _) (fun k hk e => (unhide HM).bg ((ownb hk).trans e).symm))
        have t0 := own_cell (j := n * 6) (unhide HOB) (zero_at (unhide HN) 0)
        have t1 := own_cell (j := n * 6 + 1) (unhide HOB) (zero_at (unhide HN) 1)
        have t2 := own_cell (j := n * 6 + 2) (unhide HOB) (zero_at (unhide HN) 2)
        have t3 := own_cell (j := n * 6 + 3) (unhide HOB) (zero_at (unhide HN) 3)
        have t4 := own_cell (j := n * 6 + 4) (unhide HOB) (zero_at (unhide HN) 4)
        have t5 := own_cell (j := n * 6 + 5) (unhide HOB) (zero_at (unhide HN) 5)
        obtain ⟨t0a, t0b⟩ := t0
        obtain ⟨t1a, t1b⟩ := t1
        obtain ⟨t2a, t2b⟩ := t2
        obtain ⟨t3a, t3b⟩ := t3
        obtain ⟨t4a, t4b⟩ := t4
        obtain ⟨t5a, t5b⟩ := t5
        refine hKK.out _ _ (by exact Blk.grownS (unhide HM).box (setb_grown _ _ _ _) (unhide HM).qb) (fun hHeld => ?_)
        clear hKK KK
        try simp only [Act.put, List.setIfInBounds_toArray, List.set_cons_zero, List.set_cons_succ]
        refine wpAnyH_ready (rs := [9]) (by kernel_rfl) (by simp) ?_
        refine AllReadyH.cons (o := { dst := none, op := Op.store 37 (Operand.tmp 71) (Operand.tmp 67), type := 0, pos := "ref.go:33", after := #[⟨8, .data⟩, ⟨4, .data⟩, ⟨7, .chain⟩, ⟨0, .phase⟩, ⟨1, .phase⟩, ⟨2, .phase⟩, ⟨3, .phase⟩, ⟨4, .phase⟩, ⟨5, .phase⟩, ⟨6, .phase⟩, ⟨7, .phase⟩, { on := 12, ground := Ground.gcOnly Departure.appendInPlace }], guard := none }) rfl (fun KK hKK => ?_) AllReadyH.nil
        go_simp
        refine hKK.out _ _ (by exact show Box (T6 (w3.setCell ⟨b, 0, none⟩ (.slice (some ⟨g, 0, none⟩) (n + 1) cg)) g (n * 6) (.int .i64 p.kind) (.string (BA p.text)) (.bool p.quote) (.int .i64 p.op) (.bool p.colon) (.slice va vn vc)) w.heap.size p (.slice va vn vc) from Blk.grownS (Blk.grownS (unhide HM).box (setb_grown _ _ _ _) (unhide HM).qb) (T6_grown ..) (unhide HM).qg) (fun hHeld => ?_)
        clear hKK KK
        try simp only [Act.put, List.setIfInBounds_toArray, List.set_cons_zero, List.set_cons_succ]
        clear hHeld
        refine wpAnyH_done (by kernel_rfl) ?_ _
        obtain ⟨w5, hw5⟩ : ∃ x, x = (((((((w3.setCell ⟨b, 0, none⟩ (.slice (some ⟨g, 0, none⟩) (n + 1) cg)).setCell ⟨g, n * 6, none⟩ (.int .i64 p.kind)).setCell ⟨g, n * 6 + 1, none⟩ (.string (BA p.text))).setCell ⟨g, n * 6 + 2, none⟩ (.bool p.quote)).setCell ⟨g, n * 6 + 3, none⟩ (.int .i64 p.op)).setCell ⟨g, n * 6 + 4, none⟩ (.bool p.colon)).setCell ⟨g, n * 6 + 5, none⟩ (.slice va vn vc)) := ⟨_, rfl⟩
        have H5 : Hid (RAdds w b X (ps ++ [p]) er w5) := hide (by rw [hw5]; exact RAdds.trans (unhide HG2) (fun _ h => .inl h) ⟨_, ⟨_, _, (radd_finB (unhide HM) (unhide H2) (unhide HN) (unhide HO3) (unhide HSUB) (unhide HIN)).1, by rw [List.map_append, unhide HPS]; rfl⟩, (radd_finB (unhide HM) (unhide H2) (unhide HN) (unhide HO3) (unhide HSUB) (unhide HIN)).2, rmid_x (unhide HM) (unhide H2)⟩)
        rw [← hw5]
        go_wp2
        first | refine bodyPost_end (res0 rfl _ _) rfl ?_ | refine bodyPost_ret (res0 rfl _ _) rfl ?_
        exact ⟨rfl, by rw [unhide HNO]; exact unhide H5⟩
  | true =>
    have hkp : p.kind = 1 := eq_of_beq hk
    rcases List.eq_nil_or_concat L2 with hL | ⟨M, y, hL⟩
    · have hn0 : n = 0 := by rw [← hn, hL]; rfl
      have HNO : Hid (addP ps p = ps ++ [p]) := hide (by rw [← hps, hL]; rfl)
      have hn1 : ¬ 0 < n := by omega
      have hn2 : decide (0 < n) = false := by simpa using hn0
      clear h hn hps ht hL hn0 hkp
      go_enter Tryz.func28, Tryz.ntmps28
      go_wp2_with fail
      go_quiet (fail)
      go_wp2_with fail
      obtain ⟨w2, hw2⟩ : ∃ x, x = (w.alloc (.cells #[.int .i64 p.kind, .string (BA p.text), .bool p.quote, .int .i64 p.op, .bool p.colon, .slice va vn vc] 37)).drewN nq := ⟨_, rfl⟩
      have HB2 : Hid (Below w.heap.size w w2) := hide (by rw [hw2]; exact ((Below.refl _ w).alloc (Nat.le_refl _) _).trans ((below_drew _ _).mono (by simp)))
      have HBX : Hid (Box w2 w.heap.size p (.slice va vn vc)) := hide (by rw [hw2]; exact Blk.new w _ _)
      rw [← hw2]
      have hbw : b < w2.heap.size := by have h1 := (unhide HB2).size; have h2 := unhide HBL0; omega
      have HG2 : Hid (GrownS w w2 X) := hide (grownS_of_below (unhide HB2))
      have H2 : Hid (RWg w2 b X L2 (.slice ad n cap) er) := hide ((unhide H0).below (unhide HB2))
      clear hw2
      have hnn : (n : Int) < (n : Int) + 1 := by omega
      have HSUB : Hid (WAt w2 A (.slice va vn vc) p.sub) := hide ((unhide HS0).1.below (unhide HB2) (fun k hk => ((unhide HS0).2 k hk).2.1))
      have HIN : Hid (∀ k, A k → InW b X w2 k) := hide (fun k hk => ⟨((unhide HS0).2 k hk).1, Nat.lt_of_lt_of_le ((unhide HS0).2 k hk).2.1 (unhide HB2).size, ((unhide HS0).2 k hk).2.2⟩)
      have HROW : Hid (w2.ownsRow (b + 1) 37 6 (.slice ad n cap) n (flatP L2)) := hide (by have := (unhide H2).row; rwa [unhide HN] at this)
      have c0 : w2.cell? ⟨b, 0, none⟩ = some (.slice ad n cap) := (unhide H2).blk.cell 0 rfl
      refine wp_region_held_drew (S := fun w' => Box w' w.heap.size p (.slice va vn vc)) (by kernel_rfl) (by exact unhide HBX) (fun hHeld => ?_)
      refine wpAnyH_take (i := 0) (oi := { dst := some 63, op := Op.move (Operand.tmp 0), type := 57, pos := "ref.go:33", after := #[], guard := none }) (v := ?_) rfl (by kernel_rfl) (by kernel_rfl) (by kernel_rfl) (fun _ _ _ h => h) (Or.inl ⟨by rfl, ?_⟩) (by assumption) ?_
      rotate_left
      · intro w hSw; obtain ⟨s0, s1, s2, s3, s4, s5⟩ := Box.six hSw; go_simp; (try with_reducible rfl)
      simp only [Act.put, List.setIfInBounds_toArray, List.set_cons_zero, List.set_cons_succ]
      refine wpAnyH_take (i := 1) (oi := { dst := some 64, op := Op.nilCheck (Operand.tmp 63), type := 0, pos := "ref.go:33", after := #[⟨0, .data⟩], guard := none }) (v := ?_) rfl (by kernel_rfl) (by kernel_rfl) (by kernel_rfl) (fun _ _ _ h => h) (Or.inl ⟨by rfl, ?_⟩) (by assumption) ?_
      rotate_left
      · intro w hSw; obtain ⟨s0, s1, s2, s3, s4, s5⟩ := Box.six hSw; go_simp; (try with_reducible rfl)
      simp only [Act.put, List.setIfInBounds_toArray, List.set_cons_zero, List.set_cons_succ]
      refine wpAnyH_take (i := 2) (oi := { dst := some 65, op := Op.fieldAddr 59 (Operand.tmp 64) 0, type := 0, pos := "ref.go:33", after := #[⟨1, .data⟩], guard := none }) (v := ?_) rfl (by kernel_rfl) (by kernel_rfl) (by kernel_rfl) (fun _ _ _ h => h) (Or.inl ⟨by rfl, ?_⟩) (by assumption) ?_
      rotate_left
      · intro w hSw; obtain ⟨s0, s1, s2, s3, s4, s5⟩ := Box.six hSw; go_simp; (try with_reducible rfl)
      simp only [Act.put, List.setIfInBounds_toArray, List.set_cons_zero, List.set_cons_succ]
      refine wpAnyH_take (i := 4) (oi := { dst := some 67, op := Op.load 37 (Operand.tmp 3), type := 37, pos := "ref.go:33", after := #[], guard := none }) (v := ?_) rfl (by kernel_rfl) (by kernel_rfl) (by kernel_rfl) (fun _ _ _ h => h) (Or.inl ⟨by rfl, ?_⟩) (by assumption) ?_
      rotate_left
      · intro w hSw; obtain ⟨s0, s1, s2, s3, s4, s5⟩ := Box.six hSw; go_simp; (try with_reducible rfl)
      simp only [Act.put, List.setIfInBounds_toArray, List.set_cons_zero, List.set_cons_succ]
      refine wpAnyH_ready (rs := [3, 6]) (by kernel_rfl) (by simp) ?_
      refine AllReadyH.cons (o := { dst := some 66, op := Op.load 24 (Operand.tmp 65), type := 24, pos := "ref.go:33", after := #[⟨2, .data⟩], guard := none }) rfl (fun KK hKK => ?_) (AllReadyH.cons (o := { dst := some 69, op := Op.buildSlice 24 1 #[(0, Operand.const (Value.agg #[Value.int IntKind.i64 0, Value.string { data := #[] }, Value.bool false, Value.int IntKind.i64 0, Value.bool false, Value.slice none 0 0]))], type := 24, pos := "ref.go:33", after := #[], guard := none }) rfl (fun KK hKK => ?_) AllReadyH.nil)
      · go_simp
        refine hKK.out _ _ (by exact unhide HBX) (fun hHeld => ?_)
        clear hKK KK
        try simp only [Act.put, List.setIfInBounds_toArray, List.set_cons_zero, List.set_cons_succ]
        refine wpAnyH_take (i := 5) (oi := { dst := some 68, op := Op.call { callee := Callee.builtin Builtin.len, args := #[Operand.tmp 66], argTypes := #[24] }, type := 3, pos := "ref.go:33", after := #[⟨3, .data⟩], guard := none }) (v := ?_) rfl (by kernel_rfl) (by kernel_rfl) (by kernel_rfl) (fun _ _ _ h => h) (Or.inl ⟨by rfl, ?_⟩) (by assumption) ?_
        rotate_left
        · intro w hSw; obtain ⟨s0, s1, s2, s3, s4, s5⟩ := Box.six hSw; go_simp; (try with_reducible rfl)
        simp only [Act.put, List.setIfInBounds_toArray, List.set_cons_zero, List.set_cons_succ]
        refine wpAnyH_ready (rs := [6]) (by kernel_rfl) (by simp) ?_
        refine AllReadyH.cons (o := { dst := some 69, op := Op.buildSlice 24 1 #[(0, Operand.const (Value.agg #[Value.int IntKind.i64 0, Value.string { data := #[] }, Value.bool false, Value.int IntKind.i64 0, Value.bool false, Value.slice none 0 0]))], type := 24, pos := "ref.go:33", after := #[], guard := none }) rfl (fun KK hKK => ?_) AllReadyH.nil
        go_simp
        have c0a : (w2.alloc (.cells #[.int .i64 0, .string ⟨#[]⟩, .bool false, .int .i64 0, .bool false, .slice none 0 0] 37)).cell? ⟨b, 0, none⟩ = some (.slice ad n cap) := cell_alloc c0 _
        have HBX1 : Hid (Box (w2.alloc (.cells #[.int .i64 0, .string ⟨#[]⟩, .bool false, .int .i64 0, .bool false, .slice none 0 0] 37)) w.heap.size p (.slice va vn vc)) := hide (Blk.alloc (unhide HBX) _)
        refine hKK.out _ _ (by exact unhide HBX1) (fun hHeld => ?_)
        clear hKK KK
        try simp only [Act.put, List.setIfInBounds_toArray, List.set_cons_zero, List.set_cons_succ]
        refine wpAnyH_ready (rs := [7]) (by kernel_rfl) (by simp) ?_
        refine AllReadyH.cons (o := { dst := some 70, op := Op.call { callee := Callee.builtin Builtin.append, args := #[Operand.tmp 66, Operand.tmp 69], argTypes := #[24, 24] }, type := 24, pos := "ref.go:33", after := #[⟨3, .data⟩, ⟨6, .data⟩, ⟨0, .phase⟩, ⟨1, .phase⟩, ⟨2, .phase⟩, ⟨3, .phase⟩, ⟨4, .phase⟩, ⟨5, .phase⟩, ⟨6, .phase⟩], guard := none }) rfl (fun KK hKK => ?_) AllReadyH.nil
        refine step_append_lies _ (by rfl) _ _ _ (by rfl) (b + 1) 37 iT _ 6 72 und_word hiT hzT0 hzT1 hzT2 rfl (by decide) (.slice ad n cap) n (flatP L2) (by simp [Act.eval]) (own_drew (World.ownsRow.alloc (unhide HROW) _)) ⟨w2.heap.size, 0, none⟩ 1 1 [.int .i64 0, .string ⟨#[]⟩, .bool false, .int .i64 0, .bool false, .slice none 0 0] (by simp [Act.eval]) rfl six_cells zero_is (by decide) (by unfold maxLen; omega) (by omega) (by simp; omega) (w2.heap.size + 1) (by simp) ?_
        intro g cg w3 hown3 hgrow hat hlt3
        have HM := hide (radd_mid (unhide H2) hown3 hgrow hat (unhide HBX) (unhide HXQ))
        have HO3 := hide hown3
        have d0 : w3.cell? ⟨b, 0, none⟩ = some (.slice ad n cap) := (unhide HM).blk.cell 0 rfl
        have z0 : w3.frozen? ⟨b, 0, none⟩ = false := (unhide HM).blk.frozen 0
        have e0 := own_cell (j := n * 6) (unhide HO3) (zero_at (unhide HN) 0)
        have e1 := own_cell (j := n * 6 + 1) (unhide HO3) (zero_at (unhide HN) 1)
        have e2 := own_cell (j := n * 6 + 2) (unhide HO3) (zero_at (unhide HN) 2)
        have e3 := own_cell (j := n * 6 + 3) (unhide HO3) (zero_at (unhide HN) 3)
        have e4 := own_cell (j := n * 6 + 4) (unhide HO3) (zero_at (unhide HN) 4)
        have e5 := own_cell (j := n * 6 + 5) (unhide HO3) (zero_at (unhide HN) 5)
        obtain ⟨e0a, e0b⟩ := e0
        obtain ⟨e1a, e1b⟩ := e1
        obtain ⟨e2a, e2b⟩ := e2
        obtain ⟨e3a, e3b⟩ := e3
        obtain ⟨e4a, e4b⟩ := e4
        obtain ⟨e5a, e5b⟩ := e5
        clear hown3 hgrow hat hlt3
        refine hKK.out _ _ (by exact (unhide HM).box) (fun hHeld => ?_)
        clear hKK KK
        try simp only [Act.put, List.setIfInBounds_toArray, List.set_cons_zero, List.set_cons_succ]
        refine wpAnyH_take (i := 8) (oi := { dst := some 71, op := Op.indexAddr 24 (Operand.tmp 70) (Operand.tmp 68), type := 0, pos := "ref.go:33", after := #[⟨7, .data⟩, ⟨5, .data⟩, ⟨0, .phase⟩, ⟨1, .phase⟩, ⟨2, .phase⟩, ⟨3, .phase⟩, ⟨4, .phase⟩, ⟨5, .phase⟩, ⟨6, .phase⟩, ⟨7, .phase⟩, { on := 12, ground := Ground.gcOnly Departure.appendInPlace }], guard := none }) (v := ?_) rfl (by kernel_rfl) (by kernel_rfl) (by kernel_rfl) (fun _ _ _ h => h) (Or.inl ⟨by rfl, ?_⟩) (by assumption) ?_
        rotate_left
        · intro w hSw; obtain ⟨s0, s1, s2, s3, s4, s5⟩ := Box.six hSw; go_simp; (try with_reducible rfl)
        simp only [Act.put, List.setIfInBounds_toArray, List.set_cons_zero, List.set_cons_succ]
        refine wpAnyH_take (i := 10) (oi := { dst := some 72, op := Op.nilCheck (Operand.tmp 63), type := 0, pos := "ref.go:33", after := #[⟨0, .data⟩, ⟨0, .phase⟩, ⟨1, .phase⟩, ⟨2, .phase⟩, ⟨3, .phase⟩, ⟨4, .phase⟩, ⟨5, .phase⟩, ⟨6, .phase⟩, ⟨7, .phase⟩, { on := 8, ground := Ground.textOnly Departure.appendInPlace }, { on := 9, ground := Ground.textOnly Departure.appendInPlace }], guard := none }) (v := ?_) rfl (by kernel_rfl) (by kernel_rfl) (by kernel_rfl) (fun _ _ _ h => h) (Or.inl ⟨by rfl, ?_⟩) (by assumption) ?_
        rotate_left
        · intro w hSw; obtain ⟨s0, s1, s2, s3, s4, s5⟩ := Box.six hSw; go_simp; (try with_reducible rfl)
        simp only [Act.put, List.setIfInBounds_toArray, List.set_cons_zero, List.set_cons_succ]
        refine wpAnyH_take (i := 11) (oi := { dst := some 73, op := Op.fieldAddr 59 (Operand.tmp 72) 0, type := 0, pos := "ref.go:33", after := #[⟨10, .data⟩, ⟨0, .phase⟩, ⟨1, .phase⟩, ⟨2, .phase⟩, ⟨3, .phase⟩, ⟨4, .phase⟩, ⟨5, .phase⟩, ⟨6, .phase⟩, ⟨7, .phase⟩, { on := 8, ground := Ground.textOnly Departure.appendInPlace }, { on := 9, ground := Ground.textOnly Departure.appendInPlace }], guard := none }) (v := ?_) rfl (by kernel_rfl) (by kernel_rfl) (by kernel_rfl) (fun _ _ _ h => h) (Or.inl ⟨by rfl, ?_⟩) (by assumption) ?_
        rotate_left
        · intro w hSw; obtain ⟨s0, s1, s2, s3, s4, s5⟩ := Box.six hSw; go_simp; (try with_reducible rfl)
        simp only [Act.put, List.setIfInBounds_toArray, List.set_cons_zero, List.set_cons_succ]
        refine wpAnyH_ready (rs := [9, 12]) (by kernel_rfl) (by simp) ?_
        refine AllReadyH.cons (o := { dst := none, op := Op.store 37 (Operand.tmp 71) (Operand.tmp 67), type := 0, pos := "ref.go:33", after := #[⟨8, .data⟩, ⟨4, .data⟩, ⟨7, .chain⟩, ⟨0, .phase⟩, ⟨1, .phase⟩, ⟨2, .phase⟩, ⟨3, .phase⟩, ⟨4, .phase⟩, ⟨5, .phase⟩, ⟨6, .phase⟩, ⟨7, .phase⟩, { on := 12, ground := Ground.gcOnly Departure.appendInPlace }], guard := none }) rfl (fun KK hKK => ?_) (AllReadyH.cons (o := { dst := none, op := Op.store 24 (Operand.tmp 73) (Operand.tmp 70), type := 0, pos := "ref.go:33", after := #[⟨11, .data⟩, ⟨7, .data⟩, ⟨7, .chain⟩, { on := 9, ground := Ground.textOnly Departure.appendInPlace }, ⟨0, .phase⟩, ⟨1, .phase⟩, ⟨2, .phase⟩, ⟨3, .phase⟩, ⟨4, .phase⟩, ⟨5, .phase⟩, ⟨6, .phase⟩, ⟨7, .phase⟩, { on := 8, ground := Ground.textOnly Departure.appendInPlace }, { on := 9, ground := Ground.textOnly Departure.appendInPlace }], guard := none }) rfl (fun KK hKK => ?_) AllReadyH.nil)
        · go_simp
          have d0A : ((((((w3.setCell ⟨g, n * 6, none⟩ (.int .i64 p.kind)).setCell ⟨g, n * 6 + 1, none⟩ (.string (BA p.text))).setCell ⟨g, n * 6 + 2, none⟩ (.bool p.quote)).setCell ⟨g, n * 6 + 3, none⟩ (.int .i64 p.op)).setCell ⟨g, n * 6 + 4, none⟩ (.bool p.colon)).setCell ⟨g, n * 6 + 5, none⟩ (.slice va vn vc)).cell? ⟨b, 0, none⟩ = some (.slice ad n cap) := Blk.cell (show Blk (T6 w3 g (n * 6) (.int .i64 p.kind) (.string (BA p.text)) (.bool p.quote) (.int .i64 p.op) (.bool p.colon) (.slice va vn vc)) b 59 _ from (unhide HM).blk.grownS (T6_grown ..) (unhide HM).bg) 0 rfl
          have z0A : ((((((w3.setCell ⟨g, n * 6, none⟩ (.int .i64 p.kind)).setCell ⟨g, n * 6 + 1, none⟩ (.string (BA p.text))).setCell ⟨g, n * 6 + 2, none⟩ (.bool p.quote)).setCell ⟨g, n * 6 + 3, none⟩ (.int .i64 p.op)).setCell ⟨g, n * 6 + 4, none⟩ (.bool p.colon)).setCell ⟨g, n * 6 + 5, none⟩ (.slice va vn vc)).frozen? ⟨b, 0, none⟩ = false := Blk.frozen (show Blk (T6 w3 g (n * 6) (.int .i64 p.kind) (.string (BA p.text)) (.bool p.quote) (.int .i64 p.op) (.bool p.colon) (.slice va vn vc)) b 59 _ from (unhide HM).blk.grownS (T6_grown ..) (unhide HM).bg) 0
          refine hKK.out _ _ (by exact show Box (T6 w3 g (n * 6) (.int .i64 p.kind) (.string (BA p.text)) (.bool p.quote) (.int .i64 p.op) (.bool p.colon) (.slice va vn vc)) w.heap.size p (.slice va vn vc) from Blk.grownS (unhide HM).box (T6_grown ..) (unhide HM).qg) (fun hHeld => ?_)
          clear hKK KK
          try simp only [Act.put, List.setIfInBounds_toArray, List.set_cons_zero, List.set_cons_succ]
          refine wpAnyH_ready (rs := [12]) (by kernel_rfl) (by simp) ?_
          refine AllReadyH.cons (o := { dst := none, op := Op.store 24 (Operand.tmp 73) (Operand.tmp 70), type := 0, pos := "ref.go:33", after := #[⟨11, .data⟩, ⟨7, .data⟩, ⟨7, .chain⟩, { on := 9, ground := Ground.textOnly Departure.appendInPlace }, ⟨0, .phase⟩, ⟨1, .phase⟩, ⟨2, .phase⟩, ⟨3, .phase⟩, ⟨4, .phase⟩, ⟨5, .phase⟩, ⟨6, .phase⟩, ⟨7, .phase⟩, { on := 8, ground := Ground.textOnly Departure.appendInPlace }, { on := 9, ground := Ground.textOnly Departure.appendInPlace }], guard := none }) rfl (fun KK hKK => ?_) AllReadyH.nil
          go_simp
          refine hKK.out _ _ (by exact show Box ((T6 w3 g (n * 6) (.int .i64 p.kind) (.string (BA p.text)) (.bool p.quote) (.int .i64 p.op) (.bool p.colon) (.slice va vn vc)).setCell ⟨b, 0, none⟩ (.slice (some ⟨g, 0, none⟩) (n + 1) cg)) w.heap.size p (.slice va vn vc) from Blk.grownS (Blk.grownS (unhide HM).box (T6_grown ..) (unhide HM).qg) (setb_grown _ _ _ _) (unhide HM).qb) (fun hHeld => ?_)
          clear hKK KK
          try simp only [Act.put, List.setIfInBounds_toArray, List.set_cons_zero, List.set_cons_succ]
          clear hHeld
          refine wpAnyH_done (by kernel_rfl) ?_ _
          obtain ⟨w5, hw5⟩ : ∃ x, x = (((((((w3.setCell ⟨g, n * 6, none⟩ (.int .i64 p.kind)).setCell ⟨g, n * 6 + 1, none⟩ (.string (BA p.text))).setCell ⟨g, n * 6 + 2, none⟩ (.bool p.quote)).setCell ⟨g, n * 6 + 3, none⟩ (.int .i64 p.op)).setCell ⟨g, n * 6 + 4, none⟩ (.bool p.colon)).setCell ⟨g, n * 6 + 5, none⟩ (.slice va vn vc)).setCell ⟨b, 0, none⟩ (.slice (some ⟨g, 0, none⟩) (n + 1) cg)) := ⟨_, rfl⟩
          have H5 : Hid (RAdds w b X (ps ++ [p]) er w5) := hide (by rw [hw5]; exact RAdds.trans (unhide HG2) (fun _ h => .inl h) ⟨_, ⟨_, _, (radd_finA (unhide HM) (unhide H2) (unhide HN) (unhide HO3) (unhide HSUB) (unhide HIN)).1, by rw [List.map_append, unhide HPS]; rfl⟩, (radd_finA (unhide HM) (unhide H2) (unhide HN) (unhide HO3) (unhide HSUB) (unhide HIN)).2, rmid_x (unhide HM) (unhide H2)⟩)
          rw [← hw5]
          go_wp2
          first | refine bodyPost_end (res0 rfl _ _) rfl ?_ | refine bodyPost_ret (res0 rfl _ _) rfl ?_
          exact ⟨rfl, by rw [unhide HNO]; exact unhide H5⟩
        · go_simp
          have HOB : Hid (World.ownsRow (w3.setCell ⟨b, 0, none⟩ (.slice (some ⟨g, 0, none⟩) (n + 1) cg)) (b + 1) 37 6 (.slice (some ⟨g, 0, none⟩) (n + 1) cg) (n + 1) (flatP L2 ++ [.int .i64 0, .string ⟨#[]⟩, .bool false, .int .i64 0, .bool false, .slice none 0 0])) := hide (own_grownS (unhide HO3) (setb_grown _ _ _ _) (fun k hk e => (unhide HM).bg ((ownb hk).trans e).symm))
          have t0 := own_cell (j := n * 6) (unhide HOB) (zero_at (unhide HN) 0)
          have t1 := own_cell (j := n * 6 + 1) (unhide HOB) (zero_at (unhide HN) 1)
          have t2 := own_cell (j := n * 6 + 2) (unhide HOB) (zero_at (unhide HN) 2)
          have t3 := own_cell (j := n * 6 + 3) (unhide HOB) (zero_at (unhide HN) 3)
          have t4 := own_cell (j := n * 6 + 4) (unhide HOB) (zero_at (unhide HN) 4)
          have t5 := own_cell (j := n * 6 + 5) (unhide HOB) (zero_at (unhide HN) 5)
          obtain ⟨t0a, t0b⟩ := t0
          obtain ⟨t1a, t1b⟩ := t1
          obtain ⟨t2a, t2b⟩ := t2
          obtain ⟨t3a, t3b⟩ := t3
          obtain ⟨t4a, t4b⟩ := t4
          obtain ⟨t5a, t5b⟩ := t5
          refine hKK.out _ _ (by exact Blk.grownS (unhide HM).box (setb_grown _ _ _ _) (unhide HM).qb) (fun hHeld => ?_)
          clear hKK KK
          try simp only [Act.put, List.setIfInBounds_toArray, List.set_cons_zero, List.set_cons_succ]
          refine wpAnyH_ready (rs := [9]) (by kernel_rfl) (by simp) ?_
          refine AllReadyH.cons (o := { dst := none, op := Op.store 37 (Operand.tmp 71) (Operand.tmp 67), type := 0, pos := "ref.go:33", after := #[⟨8, .data⟩, ⟨4, .data⟩, ⟨7, .chain⟩, ⟨0, .phase⟩, ⟨1, .phase⟩, ⟨2, .phase⟩, ⟨3, .phase⟩, ⟨4, .phase⟩, ⟨5, .phase⟩, ⟨6, .phase⟩, ⟨7, .phase⟩, { on := 12, ground := Ground.gcOnly Departure.appendInPlace }], guard := none }) rfl (fun KK hKK => ?_) AllReadyH.nil
          go_simp
          refine hKK.out _ _ (by exact show Box (T6 (w3.setCell ⟨b, 0, none⟩ (.slice (some ⟨g, 0, none⟩) (n + 1) cg)) g (n * 6) (.int .i64 p.kind) (.string (BA p.text)) (.bool p.quote) (.int .i64 p.op) (.bool p.colon) (.slice va vn vc)) w.heap.size p (.slice va vn vc) from Blk.grownS (Blk.grownS (unhide HM).box (setb_grown _ _ _ _) (unhide HM).qb) (T6_grown ..) (unhide HM).qg) (fun hHeld => ?_)
          clear hKK KK
          try simp only [Act.put, List.setIfInBounds_toArray, List.set_cons_zero, List.set_cons_succ]
          clear hHeld
          refine wpAnyH_done (by kernel_rfl) ?_ _
          obtain ⟨w5, hw5⟩ : ∃ x, x = (((((((w3.setCell ⟨b, 0, none⟩ (.slice (some ⟨g, 0, none⟩) (n + 1) cg)).setCell ⟨g, n * 6, none⟩ (.int .i64 p.kind)).setCell ⟨g, n * 6 + 1, none⟩ (.string (BA p.text))).setCell ⟨g, n * 6 + 2, none⟩ (.bool p.quote)).setCell ⟨g, n * 6 + 3, none⟩ (.int .i64 p.op)).setCell ⟨g, n * 6 + 4, none⟩ (.bool p.colon)).setCell ⟨g, n * 6 + 5, none⟩ (.slice va vn vc)) := ⟨_, rfl⟩
          have H5 : Hid (RAdds w b X (ps ++ [p]) er w5) := hide (by rw [hw5]; exact RAdds.trans (unhide HG2) (fun _ h => .inl h) ⟨_, ⟨_, _, (radd_finB (unhide HM) (unhide H2) (unhide HN) (unhide HO3) (unhide HSUB) (unhide HIN)).1, by rw [List.map_append, unhide HPS]; rfl⟩, (radd_finB (unhide HM) (unhide H2) (unhide HN) (unhide HO3) (unhide HSUB) (unhide HIN)).2, rmid_x (unhide HM) (unhide H2)⟩)
          rw [← hw5]
          go_wp2
          first | refine bodyPost_end (res0 rfl _ _) rfl ?_ | refine bodyPost_ret (res0 rfl _ _) rfl ?_
          exact ⟨rfl, by rw [unhide HNO]; exact unhide H5⟩
      · go_simp
        have c0a : (w2.alloc (.cells #[.int .i64 0, .string ⟨#[]⟩, .bool false, .int .i64 0, .bool false, .slice none 0 0] 37)).cell? ⟨b, 0, none⟩ = some (.slice ad n cap) := cell_alloc c0 _
        have HBX1 : Hid (Box (w2.alloc (.cells #[.int .i64 0, .string ⟨#[]⟩, .bool false, .int .i64 0, .bool false, .slice none 0 0] 37)) w.heap.size p (.slice va vn vc)) := hide (Blk.alloc (unhide HBX) _)
        refine hKK.out _ _ (by exact unhide HBX1) (fun hHeld => ?_)
        clear hKK KK
        try simp only [Act.put, List.setIfInBounds_toArray, List.set_cons_zero, List.set_cons_succ]
        refine wpAnyH_ready (rs := [3]) (by kernel_rfl) (by simp) ?_
        refine AllReadyH.cons (o := { dst := some 66, op := Op.load 24 (Operand.tmp 65), type := 24, pos := "ref.go:33", after := #[⟨2, .data⟩], guard := none }) rfl (fun KK hKK => ?_) AllReadyH.nil
        go_simp
        refine hKK.out _ _ (by exact unhide HBX1) (fun hHeld => ?_)
        clear hKK KK
        try simp only [Act.put, List.setIfInBounds_toArray, List.set_cons_zero, List.set_cons_succ]
        refine wpAnyH_take (i := 5) (oi := { dst := some 68, op := Op.call { callee := Callee.builtin Builtin.len, args := #[Operand.tmp 66], argTypes := #[24] }, type := 3, pos := "ref.go:33", after := #[⟨3, .data⟩], guard := none }) (v := ?_) rfl (by kernel_rfl) (by kernel_rfl) (by kernel_rfl) (fun _ _ _ h => h) (Or.inl ⟨by rfl, ?_⟩) (by assumption) ?_
        rotate_left
        · intro w hSw; obtain ⟨s0, s1, s2, s3, s4, s5⟩ := Box.six hSw; go_simp; (try with_reducible rfl)
        simp only [Act.put, List.setIfInBounds_toArray, List.set_cons_zero, List.set_cons_succ]
        refine wpAnyH_ready (rs := [7]) (by kernel_rfl) (by simp) ?_
        refine AllReadyH.cons (o := { dst := some 70, op := Op.call { callee := Callee.builtin Builtin.append, args := #[Operand.tmp 66, Operand.tmp 69], argTypes := #[24, 24] }, type := 24, pos := "ref.go:33", after := #[⟨3, .data⟩, ⟨6, .data⟩, ⟨0, .phase⟩, ⟨1, .phase⟩, ⟨2, .phase⟩, ⟨3, .phase⟩, ⟨4, .phase⟩, ⟨5, .phase⟩, ⟨6, .phase⟩], guard := none }) rfl (fun KK hKK => ?_) AllReadyH.nil
        refine step_append_lies _ (by rfl) _ _ _ (by rfl) (b + 1) 37 iT _ 6 72 und_word hiT hzT0 hzT1 hzT2 rfl (by decide) (.slice ad n cap) n (flatP L2) (by simp [Act.eval]) (own_drew (World.ownsRow.alloc (unhide HROW) _)) ⟨w2.heap.size, 0, none⟩ 1 1 [.int .i64 0, .string ⟨#[]⟩, .bool false, .int .i64 0, .bool false, .slice none 0 0] (by simp [Act.eval]) rfl six_cells zero_is (by decide) (by unfold maxLen; omega) (by omega) (by simp; omega) (w2.heap.size + 1) (by simp) ?_
        intro g cg w3 hown3 hgrow hat hlt3
        have HM := hide (radd_mid (unhide H2) hown3 hgrow hat (unhide HBX) (unhide HXQ))
        have HO3 := hide hown3
        have d0 : w3.cell? ⟨b, 0, none⟩ = some (.slice ad n cap) := (unhide HM).blk.cell 0 rfl
        have z0 : w3.frozen? ⟨b, 0, none⟩ = false := (unhide HM).blk.frozen 0
        have e0 := own_cell (j := n * 6) (unhide HO3) (zero_at (unhide HN) 0)
        have e1 := own_cell (j := n * 6 + 1) (unhide HO3) (zero_at (unhide HN) 1)
        have e2 := own_cell (j := n * 6 + 2) (unhide HO3) (zero_at (unhide HN) 2)
        have e3 := own_cell (j := n * 6 + 3) (unhide HO3) (zero_at (unhide HN) 3)
        have e4 := own_cell (j := n * 6 + 4) (unhide HO3) (zero_at (unhide HN) 4)
        have e5 := own_cell (j := n * 6 + 5) (unhide HO3) (zero_at (unhide HN) 5)
        obtain ⟨e0a, e0b⟩ := e0
        obtain ⟨e1a, e1b⟩ := e1
        obtain ⟨e2a, e2b⟩ := e2
        obtain ⟨e3a, e3b⟩ := e3
        obtain ⟨e4a, e4b⟩ := e4
        obtain ⟨e5a, e5b⟩ := e5
        clear hown3 hgrow hat hlt3
        refine hKK.out _ _ (by exact (unhide HM).box) (fun hHeld => ?_)
        clear hKK KK
        try simp only [Act.put, List.setIfInBounds_toArray, List.set_cons_zero, List.set_cons_succ]
        refine wpAnyH_take (i := 8) (oi := { dst := some 71, op := Op.indexAddr 24 (Operand.tmp 70) (Operand.tmp 68), type := 0, pos := "ref.go:33", after := #[⟨7, .data⟩, ⟨5, .data⟩, ⟨0, .phase⟩, ⟨1, .phase⟩, ⟨2, .phase⟩, ⟨3, .phase⟩, ⟨4, .phase⟩, ⟨5, .phase⟩, ⟨6, .phase⟩, ⟨7, .phase⟩, { on := 12, ground := Ground.gcOnly Departure.appendInPlace }], guard := none }) (v := ?_) rfl (by kernel_rfl) (by kernel_rfl) (by kernel_rfl) (fun _ _ _ h => h) (Or.inl ⟨by rfl, ?_⟩) (by assumption) ?_
        rotate_left
        · intro w hSw; obtain ⟨s0, s1, s2, s3, s4, s5⟩ := Box.six hSw; go_simp; (try with_reducible rfl)
        simp only [Act.put, List.setIfInBounds_toArray, List.set_cons_zero, List.set_cons_succ]
        refine wpAnyH_take (i := 10) (oi := { dst := some 72, op := Op.nilCheck (Operand.tmp 63), type := 0, pos := "ref.go:33", after := #[⟨0, .data⟩, ⟨0, .phase⟩, ⟨1, .phase⟩, ⟨2, .phase⟩, ⟨3, .phase⟩, ⟨4, .phase⟩, ⟨5, .phase⟩, ⟨6, .phase⟩, ⟨7, .phase⟩, { on := 8, ground := Ground.textOnly Departure.appendInPlace }, { on := 9, ground := Ground.textOnly Departure.appendInPlace }], guard := none }) (v := ?_) rfl (by kernel_rfl) (by kernel_rfl) (by kernel_rfl) (fun _ _ _ h => h) (Or.inl ⟨by rfl, ?_⟩) (by assumption) ?_
        rotate_left
        · intro w hSw; obtain ⟨s0, s1, s2, s3, s4, s5⟩ := Box.six hSw; go_simp; (try with_reducible rfl)
        simp only [Act.put, List.setIfInBounds_toArray, List.set_cons_zero, List.set_cons_succ]
        refine wpAnyH_take (i := 11) (oi := { dst := some 73, op := Op.fieldAddr 59 (Operand.tmp 72) 0, type := 0, pos := "ref.go:33", after := #[⟨10, .data⟩, ⟨0, .phase⟩, ⟨1, .phase⟩, ⟨2, .phase⟩, ⟨3, .phase⟩, ⟨4, .phase⟩, ⟨5, .phase⟩, ⟨6, .phase⟩, ⟨7, .phase⟩, { on := 8, ground := Ground.textOnly Departure.appendInPlace }, { on := 9, ground := Ground.textOnly Departure.appendInPlace }], guard := none }) (v := ?_) rfl (by kernel_rfl) (by kernel_rfl) (by kernel_rfl) (fun _ _ _ h => h) (Or.inl ⟨by rfl, ?_⟩) (by assumption) ?_
        rotate_left
        · intro w hSw; obtain ⟨s0, s1, s2, s3, s4, s5⟩ := Box.six hSw; go_simp; (try with_reducible rfl)
        simp only [Act.put, List.setIfInBounds_toArray, List.set_cons_zero, List.set_cons_succ]
        refine wpAnyH_ready (rs := [9, 12]) (by kernel_rfl) (by simp) ?_
        refine AllReadyH.cons (o := { dst := none, op := Op.store 37 (Operand.tmp 71) (Operand.tmp 67), type := 0, pos := "ref.go:33", after := #[⟨8, .data⟩, ⟨4, .data⟩, ⟨7, .chain⟩, ⟨0, .phase⟩, ⟨1, .phase⟩, ⟨2, .phase⟩, ⟨3, .phase⟩, ⟨4, .phase⟩, ⟨5, .phase⟩, ⟨6, .phase⟩, ⟨7, .phase⟩, { on := 12, ground := Ground.gcOnly Departure.appendInPlace }], guard := none }) rfl (fun KK hKK => ?_) (AllReadyH.cons (o := { dst := none, op := Op.store 24 (Operand.tmp 73) (Operand.tmp 70), type := 0, pos := "ref.go:33", after := #[⟨11, .data⟩, ⟨7, .data⟩, ⟨7, .chain⟩, { on := 9, ground := Ground.textOnly Departure.appendInPlace }, ⟨0, .phase⟩, ⟨1, .phase⟩, ⟨2, .phase⟩, ⟨3, .phase⟩, ⟨4, .phase⟩, ⟨5, .phase⟩, ⟨6, .phase⟩, ⟨7, .phase⟩, { on := 8, ground := Ground.textOnly Departure.appendInPlace }, { on := 9, ground := Ground.textOnly Departure.appendInPlace }], guard := none }) rfl (fun KK hKK => ?_) AllReadyH.nil)
        · go_simp
          have d0A : ((((((w3.setCell ⟨g, n * 6, none⟩ (.int .i64 p.kind)).setCell ⟨g, n * 6 + 1, none⟩ (.string (BA p.text))).setCell ⟨g, n * 6 + 2, none⟩ (.bool p.quote)).setCell ⟨g, n * 6 + 3, none⟩ (.int .i64 p.op)).setCell ⟨g, n * 6 + 4, none⟩ (.bool p.colon)).setCell ⟨g, n * 6 + 5, none⟩ (.slice va vn vc)).cell? ⟨b, 0, none⟩ = some (.slice ad n cap) := Blk.cell (show Blk (T6 w3 g (n * 6) (.int .i64 p.kind) (.string (BA p.text)) (.bool p.quote) (.int .i64 p.op) (.bool p.colon) (.slice va vn vc)) b 59 _ from (unhide HM).blk.grownS (T6_grown ..) (unhide HM).bg) 0 rfl
          have z0A : ((((((w3.setCell ⟨g, n * 6, none⟩ (.int .i64 p.kind)).setCell ⟨g, n * 6 + 1, none⟩ (.string (BA p.text))).setCell ⟨g, n * 6 + 2, none⟩ (.bool p.quote)).setCell ⟨g, n * 6 + 3, none⟩ (.int .i64 p.op)).setCell ⟨g, n * 6 + 4, none⟩ (.bool p.colon)).setCell ⟨g, n * 6 + 5, none⟩ (.slice va vn vc)).frozen? ⟨b, 0, none⟩ = false := Blk.frozen (show Blk (T6 w3 g (n * 6) (.int .i64 p.kind) (.string (BA p.text)) (.bool p.quote) (.int .i64 p.op) (.bool p.colon) (.slice va vn vc)) b 59 _ from (unhide HM).blk.grownS (T6_grown ..) (unhide HM).bg) 0
          refine hKK.out _ _ (by exact show Box (T6 w3 g (n * 6) (.int .i64 p.kind) (.string (BA p.text)) (.bool p.quote) (.int .i64 p.op) (.bool p.colon) (.slice va vn vc)) w.heap.size p (.slice va vn vc) from Blk.grownS (unhide HM).box (T6_grown ..) (unhide HM).qg) (fun hHeld => ?_)
          clear hKK KK
          try simp only [Act.put, List.setIfInBounds_toArray, List.set_cons_zero, List.set_cons_succ]
          refine wpAnyH_ready (rs := [12]) (by kernel_rfl) (by simp) ?_
          refine AllReadyH.cons (o := { dst := none, op := Op.store 24 (Operand.tmp 73) (Operand.tmp 70), type := 0, pos := "ref.go:33", after := #[⟨11, .data⟩, ⟨7, .data⟩, ⟨7, .chain⟩, { on := 9, ground := Ground.textOnly Departure.appendInPlace }, ⟨0, .phase⟩, ⟨1, .phase⟩, ⟨2, .phase⟩, ⟨3, .phase⟩, ⟨4, .phase⟩, ⟨5, .phase⟩, ⟨6, .phase⟩, ⟨7, .phase⟩, { on := 8, ground := Ground.textOnly Departure.appendInPlace }, { on := 9, ground := Ground.textOnly Departure.appendInPlace }], guard := none }) rfl (fun KK hKK => ?_) AllReadyH.nil
          go_simp
          refine hKK.out _ _ (by exact show Box ((T6 w3 g (n * 6) (.int .i64 p.kind) (.string (BA p.text)) (.bool p.quote) (.int .i64 p.op) (.bool p.colon) (.slice va vn vc)).setCell ⟨b, 0, none⟩ (.slice (some ⟨g, 0, none⟩) (n + 1) cg)) w.heap.size p (.slice va vn vc) from Blk.grownS (Blk.grownS (unhide HM).box (T6_grown ..) (unhide HM).qg) (setb_grown _ _ _ _) (unhide HM).qb) (fun hHeld => ?_)
          clear hKK KK
          try simp only [Act.put, List.setIfInBounds_toArray, List.set_cons_zero, List.set_cons_succ]
          clear hHeld
          refine wpAnyH_done (by kernel_rfl) ?_ _
          obtain ⟨w5, hw5⟩ : ∃ x, x = (((((((w3.setCell ⟨g, n * 6, none⟩ (.int .i64 p.kind)).setCell ⟨g, n * 6 + 1, none⟩ (.string (BA p.text))).setCell ⟨g, n * 6 + 2, none⟩ (.bool p.quote)).setCell ⟨g, n * 6 + 3, none⟩ (.int .i64 p.op)).setCell ⟨g, n * 6 + 4, none⟩ (.bool p.colon)).setCell ⟨g, n * 6 + 5, none⟩ (.slice va vn vc)).setCell ⟨b, 0, none⟩ (.slice (some ⟨g, 0, none⟩) (n + 1) cg)) := ⟨_, rfl⟩
          have H5 : Hid (RAdds w b X (ps ++ [p]) er w5) := hide (by rw [hw5]; exact RAdds.trans (unhide HG2) (fun _ h => .inl h) ⟨_, ⟨_, _, (radd_finA (unhide HM) (unhide H2) (unhide HN) (unhide HO3) (unhide HSUB) (unhide HIN)).1, by rw [List.map_append, unhide HPS]; rfl⟩, (radd_finA (unhide HM) (unhide H2) (unhide HN) (unhide HO3) (unhide HSUB) (unhide HIN)).2, rmid_x (unhide HM) (unhide H2)⟩)
          rw [← hw5]
          go_wp2
          first | refine bodyPost_end (res0 rfl _ _) rfl ?_ | refine bodyPost_ret (res0 rfl _ _) rfl ?_
          exact ⟨rfl, by rw [unhide HNO]; exact unhide H5⟩
        · go_simp
          have HOB : Hid (World.ownsRow (w3.setCell ⟨b, 0, none⟩ (.slice (some ⟨g, 0, none⟩) (n + 1) cg)) (b + 1) 37 6 (.slice (some ⟨g, 0, none⟩) (n + 1) cg) (n + 1) (flatP L2 ++ [.int .i64 0, .string ⟨#[]⟩, .bool false, .int .i64 0, .bool false, .slice none 0 0])) := hide (own_grownS (unhide HO3) (setb_grown _ _ _ _) (fun k hk e => (unhide HM).bg ((ownb hk).trans e).symm))
          have t0 := own_cell (j := n * 6) (unhide HOB) (zero_at (unhide HN) 0)
          have t1 := own_cell (j := n * 6 + 1) (unhide HOB) (zero_at (unhide HN) 1)
          have t2 := own_cell (j := n * 6 + 2) (unhide HOB) (zero_at (unhide HN) 2)
          have t3 := own_cell (j := n * 6 + 3) (unhide HOB) (zero_at (unhide HN) 3)
          have t4 := own_cell (j := n * 6 + 4) (unhide HOB) (zero_at (unhide HN) 4)
          have t5 := own_cell (j := n * 6 + 5) (unhide HOB) (zero_at (unhide HN) 5)
          obtain ⟨t0a, t0b⟩ := t0
          obtain ⟨t1a, t1b⟩ := t1
          obtain ⟨t2a, t2b⟩ := t2
          obtain ⟨t3a, t3b⟩ := t3
          obtain ⟨t4a, t4b⟩ := t4
          obtain ⟨t5a, t5b⟩ := t5
          refine hKK.out _ _ (by exact Blk.grownS (unhide HM).box (setb_grown _ _ _ _) (unhide HM).qb) (fun hHeld => ?_)
          clear hKK KK
          try simp only [Act.put, List.setIfInBounds_toArray, List.set_cons_zero, List.set_cons_succ]
          refine wpAnyH_ready (rs := [9]) (by kernel_rfl) (by simp) ?_
          refine AllReadyH.cons (o := { dst := none, op := Op.store 37 (Operand.tmp 71) (Operand.tmp 67), type := 0, pos := "ref.go:33", after := #[⟨8, .data⟩, ⟨4, .data⟩, ⟨7, .chain⟩, ⟨0, .phase⟩, ⟨1, .phase⟩, ⟨2, .phase⟩, ⟨3, .phase⟩, ⟨4, .phase⟩, ⟨5, .phase⟩, ⟨6, .phase⟩, ⟨7, .phase⟩, { on := 12, ground := Ground.gcOnly Departure.appendInPlace }], guard := none }) rfl (fun KK hKK => ?_) AllReadyH.nil
          go_simp
          refine hKK.out _ _ (by exact show Box (T6 (w3.setCell ⟨b, 0, none⟩ (.slice (some ⟨g, 0, none⟩) (n + 1) cg)) g (n * 6) (.int .i64 p.kind) (.string (BA p.text)) (.bool p.quote) (.int .i64 p.op) (.bool p.colon) (.slice va vn vc)) w.heap.size p (.slice va vn vc) from Blk.grownS (Blk.grownS (unhide HM).box (setb_grown _ _ _ _) (unhide HM).qb) (T6_grown ..) (unhide HM).qg) (fun hHeld => ?_)
          clear hKK KK
          try simp only [Act.put, List.setIfInBounds_toArray, List.set_cons_zero, List.set_cons_succ]
          clear hHeld
          refine wpAnyH_done (by kernel_rfl) ?_ _
          obtain ⟨w5, hw5⟩ : ∃ x, x = (((((((w3.setCell ⟨b, 0, none⟩ (.slice (some ⟨g, 0, none⟩) (n + 1) cg)).setCell ⟨g, n * 6, none⟩ (.int .i64 p.kind)).setCell ⟨g, n * 6 + 1, none⟩ (.string (BA p.text))).setCell ⟨g, n * 6 + 2, none⟩ (.bool p.quote)).setCell ⟨g, n * 6 + 3, none⟩ (.int .i64 p.op)).setCell ⟨g, n * 6 + 4, none⟩ (.bool p.colon)).setCell ⟨g, n * 6 + 5, none⟩ (.slice va vn vc)) := ⟨_, rfl⟩
          have H5 : Hid (RAdds w b X (ps ++ [p]) er w5) := hide (by rw [hw5]; exact RAdds.trans (unhide HG2) (fun _ h => .inl h) ⟨_, ⟨_, _, (radd_finB (unhide HM) (unhide H2) (unhide HN) (unhide HO3) (unhide HSUB) (unhide HIN)).1, by rw [List.map_append, unhide HPS]; rfl⟩, (radd_finB (unhide HM) (unhide H2) (unhide HN) (unhide HO3) (unhide HSUB) (unhide HIN)).2, rmid_x (unhide HM) (unhide H2)⟩)
          rw [← hw5]
          go_wp2
          first | refine bodyPost_end (res0 rfl _ _) rfl ?_ | refine bodyPost_ret (res0 rfl _ _) rfl ?_
          exact ⟨rfl, by rw [unhide HNO]; exact unhide H5⟩
    · obtain ⟨⟨yk, yt, yq, yo, yc, ys⟩, yv⟩ := y
      rw [List.concat_eq_append] at hL
      obtain ⟨m, hm⟩ : ∃ m, m = M.length := ⟨_, rfl⟩
      have hnm : n = m + 1 := by rw [← hn, hL, hm]; simp
      obtain ⟨g, rfl⟩ : ∃ g, ad = some ⟨g, 0, none⟩ := by
        obtain ⟨g, c, e, _⟩ := World.ownsRow.form h.row (by omega)
        cases e
        exact ⟨g, rfl⟩
      have hr := h.row
      rw [hn] at hr
      have hcell : ∀ j u, (pcs ((.mk yk yt yq yo yc ys, yv) : Prt × Value))[j]? = some u → j < 6 → w.cell? ⟨g, m * 6 + j, none⟩ = some u := fun j u hu hj => (own_cell hr (by rw [← hu, hL]; exact flatP_get _ m j _ (by rw [hm]; simp) hj)).1
      have k0 : (w.alloc (.cells #[.int .i64 p.kind, .string (BA p.text), .bool p.quote, .int .i64 p.op, .bool p.colon, .slice va vn vc] 37)).cell? ⟨g, m * 6, none⟩ = some (.int .i64 yk) := cell_alloc (hcell 0 _ rfl (by omega)) _
      have k2 : (w.alloc (.cells #[.int .i64 p.kind, .string (BA p.text), .bool p.quote, .int .i64 p.op, .bool p.colon, .slice va vn vc] 37)).cell? ⟨g, m * 6 + 2, none⟩ = some (.bool yq) := cell_alloc (hcell 2 _ rfl (by omega)) _
      have hwr : IntKind.i64.wrap ((n : Int) - 1) = (m : Int) := by rw [IntKind.wrap_i64]; omega
      have h0n : 0 < n := by omega
      have h0d : decide (0 < n) = true := by simpa using h0n
      have hmn : (m : Int) < (n : Int) := by omega
      have hm0 : (0 : Int) ≤ (m : Int) := by omega
      have hgl : g < w.heap.size := (World.ownsRow.lt h.row g rfl).2
      cases hyk : (yk == 1) with
      | false =>
        have HNO : Hid (addP ps p = ps ++ [p]) := hide (by
          rw [← hps, hL, List.map_append]
          show addP (M.map Prod.fst ++ [.mk yk yt yq yo yc ys]) p = _
          rw [addP_snoc, if_neg]
          · simp
          · rintro ⟨e, _⟩
            rw [e] at hyk
            cases hyk)
        clear h hn hps ht hL hkp hr hcell hnm hm
        go_enter Tryz.func28, Tryz.ntmps28
        go_wp2_with fail
        go_quiet (fail)
        go_wp2_with fail
        obtain ⟨w2, hw2⟩ : ∃ x, x = (w.alloc (.cells #[.int .i64 p.kind, .string (BA p.text), .bool p.quote, .int .i64 p.op, .bool p.colon, .slice va vn vc] 37)).drewN nq := ⟨_, rfl⟩
        have HB2 : Hid (Below w.heap.size w w2) := hide (by rw [hw2]; exact ((Below.refl _ w).alloc (Nat.le_refl _) _).trans ((below_drew _ _).mono (by simp)))
        have HBX : Hid (Box w2 w.heap.size p (.slice va vn vc)) := hide (by rw [hw2]; exact Blk.new w _ _)
        rw [← hw2]
        have hbw : b < w2.heap.size := by have h1 := (unhide HB2).size; have h2 := unhide HBL0; omega
        have HG2 : Hid (GrownS w w2 X) := hide (grownS_of_below (unhide HB2))
        have H2 : Hid (RWg w2 b X L2 (.slice (some ⟨g, 0, none⟩) n cap) er) := hide ((unhide H0).below (unhide HB2))
        clear hw2
        have hnn : (n : Int) < (n : Int) + 1 := by omega
        have HSUB : Hid (WAt w2 A (.slice va vn vc) p.sub) := hide ((unhide HS0).1.below (unhide HB2) (fun k hk => ((unhide HS0).2 k hk).2.1))
        have HIN : Hid (∀ k, A k → InW b X w2 k) := hide (fun k hk => ⟨((unhide HS0).2 k hk).1, Nat.lt_of_lt_of_le ((unhide HS0).2 k hk).2.1 (unhide HB2).size, ((unhide HS0).2 k hk).2.2⟩)
        have HROW : Hid (w2.ownsRow (b + 1) 37 6 (.slice (some ⟨g, 0, none⟩) n cap) n (flatP L2)) := hide (by have := (unhide H2).row; rwa [unhide HN] at this)
        have c0 : w2.cell? ⟨b, 0, none⟩ = some (.slice (some ⟨g, 0, none⟩) n cap) := (unhide H2).blk.cell 0 rfl
        refine wp_region_held_drew (S := fun w' => Box w' w.heap.size p (.slice va vn vc)) (by kernel_rfl) (by exact unhide HBX) (fun hHeld => ?_)
        refine wpAnyH_take (i := 0) (oi := { dst := some 63, op := Op.move (Operand.tmp 0), type := 57, pos := "ref.go:33", after := #[], guard := none }) (v := ?_) rfl (by kernel_rfl) (by kernel_rfl) (by kernel_rfl) (fun _ _ _ h => h) (Or.inl ⟨by rfl, ?_⟩) (by assumption) ?_
        rotate_left
        · intro w hSw; obtain ⟨s0, s1, s2, s3, s4, s5⟩ := Box.six hSw; go_simp; (try with_reducible rfl)
        simp only [Act.put, List.setIfInBounds_toArray, List.set_cons_zero, List.set_cons_succ]
        refine wpAnyH_take (i := 1) (oi := { dst := some 64, op := Op.nilCheck (Operand.tmp 63), type := 0, pos := "ref.go:33", after := #[⟨0, .data⟩], guard := none }) (v := ?_) rfl (by kernel_rfl) (by kernel_rfl) (by kernel_rfl) (fun _ _ _ h => h) (Or.inl ⟨by rfl, ?_⟩) (by assumption) ?_
        rotate_left
        · intro w hSw; obtain ⟨s0, s1, s2, s3, s4, s5⟩ := Box.six hSw; go_simp; (try with_reducible rfl)
        simp only [Act.put, List.setIfInBounds_toArray, List.set_cons_zero, List.set_cons_succ]
        refine wpAnyH_take (i := 2) (oi := { dst := some 65, op := Op.fieldAddr 59 (Operand.tmp 64) 0, type := 0, pos := "ref.go:33", after := #[⟨1, .data⟩], guard := none }) (v := ?_) rfl (by kernel_rfl) (by kernel_rfl) (by kernel_rfl) (fun _ _ _ h => h) (Or.inl ⟨by rfl, ?_⟩) (by assumption) ?_
        rotate_left
        · intro w hSw; obtain ⟨s0, s1, s2, s3, s4, s5⟩ := Box.six hSw; go_simp; (try with_reducible rfl)
        simp only [Act.put, List.setIfInBounds_toArray, List.set_cons_zero, List.set_cons_succ]
        refine wpAnyH_take (i := 4) (oi := { dst := some 67, op := Op.load 37 (Operand.tmp 3), type := 37, pos := "ref.go:33", after := #[], guard := none }) (v := ?_) rfl (by kernel_rfl) (by kernel_rfl) (by kernel_rfl) (fun _ _ _ h => h) (Or.inl ⟨by rfl, ?_⟩) (by assumption) ?_
        rotate_left
        · intro w hSw; obtain ⟨s0, s1, s2, s3, s4, s5⟩ := Box.six hSw; go_simp; (try with_reducible rfl)
        simp only [Act.put, List.setIfInBounds_toArray, List.set_cons_zero, List.set_cons_succ]
        refine wpAnyH_ready (rs := [3, 6]) (by kernel_rfl) (by simp) ?_
        refine AllReadyH.cons (o := { dst := some 66, op := Op.load 24 (Operand.tmp 65), type := 24, pos := "ref.go:33", after := #[⟨2, .data⟩], guard := none }) rfl (fun KK hKK => ?_) (AllReadyH.cons (o := { dst := some 69, op := Op.buildSlice 24 1 #[(0, Operand.const (Value.agg #[Value.int IntKind.i64 0, Value.string { data := #[] }, Value.bool false, Value.int IntKind.i64 0, Value.bool false, Value.slice none 0 0]))], type := 24, pos := "ref.go:33", after := #[], guard := none }) rfl (fun KK hKK => ?_) AllReadyH.nil)
        · go_simp
          refine hKK.out _ _ (by exact unhide HBX) (fun hHeld => ?_)
          clear hKK KK
          try simp only [Act.put, List.setIfInBounds_toArray, List.set_cons_zero, List.set_cons_succ]
          refine wpAnyH_take (i := 5) (oi := { dst := some 68, op := Op.call { callee := Callee.builtin Builtin.len, args := #[Operand.tmp 66], argTypes := #[24] }, type := 3, pos := "ref.go:33", after := #[⟨3, .data⟩], guard := none }) (v := ?_) rfl (by kernel_rfl) (by kernel_rfl) (by kernel_rfl) (fun _ _ _ h => h) (Or.inl ⟨by rfl, ?_⟩) (by assumption) ?_
          rotate_left
          · intro w hSw; obtain ⟨s0, s1, s2, s3, s4, s5⟩ := Box.six hSw; go_simp; (try with_reducible rfl)
          simp only [Act.put, List.setIfInBounds_toArray, List.set_cons_zero, List.set_cons_succ]
          refine wpAnyH_ready (rs := [6]) (by kernel_rfl) (by simp) ?_
          refine AllReadyH.cons (o := { dst := some 69, op := Op.buildSlice 24 1 #[(0, Operand.const (Value.agg #[Value.int IntKind.i64 0, Value.string { data := #[] }, Value.bool false, Value.int IntKind.i64 0, Value.bool false, Value.slice none 0 0]))], type := 24, pos := "ref.go:33", after := #[], guard := none }) rfl (fun KK hKK => ?_) AllReadyH.nil
          go_simp
          have c0a : (w2.alloc (.cells #[.int .i64 0, .string ⟨#[]⟩, .bool false, .int .i64 0, .bool false, .slice none 0 0] 37)).cell? ⟨b, 0, none⟩ = some (.slice (some ⟨g, 0, none⟩) n cap) := cell_alloc c0 _
          have HBX1 : Hid (Box (w2.alloc (.cells #[.int .i64 0, .string ⟨#[]⟩, .bool false, .int .i64 0, .bool false, .slice none 0 0] 37)) w.heap.size p (.slice va vn vc)) := hide (Blk.alloc (unhide HBX) _)
          refine hKK.out _ _ (by exact unhide HBX1) (fun hHeld => ?_)
          clear hKK KK
          try simp only [Act.put, List.setIfInBounds_toArray, List.set_cons_zero, List.set_cons_succ]
          refine wpAnyH_ready (rs := [7]) (by kernel_rfl) (by simp) ?_
          refine AllReadyH.cons (o := { dst := some 70, op := Op.call { callee := Callee.builtin Builtin.append, args := #[Operand.tmp 66, Operand.tmp 69], argTypes := #[24, 24] }, type := 24, pos := "ref.go:33", after := #[⟨3, .data⟩, ⟨6, .data⟩, ⟨0, .phase⟩, ⟨1, .phase⟩, ⟨2, .phase⟩, ⟨3, .phase⟩, ⟨4, .phase⟩, ⟨5, .phase⟩, ⟨6, .phase⟩], guard := none }) rfl (fun KK hKK => ?_) AllReadyH.nil
          refine step_append_lies _ (by rfl) _ _ _ (by rfl) (b + 1) 37 iT _ 6 72 und_word hiT hzT0 hzT1 hzT2 rfl (by decide) (.slice (some ⟨g, 0, none⟩) n cap) n (flatP L2) (by simp [Act.eval]) (own_drew (World.ownsRow.alloc (unhide HROW) _)) ⟨w2.heap.size, 0, none⟩ 1 1 [.int .i64 0, .string ⟨#[]⟩, .bool false, .int .i64 0, .bool false, .slice none 0 0] (by simp [Act.eval]) rfl six_cells zero_is (by decide) (by unfold maxLen; omega) (by omega) (by simp; omega) (w2.heap.size + 1) (by simp) ?_
          intro gn cg w3 hown3 hgrow hat hlt3
          have HM := hide (radd_mid (unhide H2) hown3 hgrow hat (unhide HBX) (unhide HXQ))
          have HO3 := hide hown3
          have d0 : w3.cell? ⟨b, 0, none⟩ = some (.slice (some ⟨g, 0, none⟩) n cap) := (unhide HM).blk.cell 0 rfl
          have z0 : w3.frozen? ⟨b, 0, none⟩ = false := (unhide HM).blk.frozen 0
          have e0 := own_cell (j := n * 6) (unhide HO3) (zero_at (unhide HN) 0)
          have e1 := own_cell (j := n * 6 + 1) (unhide HO3) (zero_at (unhide HN) 1)
          have e2 := own_cell (j := n * 6 + 2) (unhide HO3) (zero_at (unhide HN) 2)
          have e3 := own_cell (j := n * 6 + 3) (unhide HO3) (zero_at (unhide HN) 3)
          have e4 := own_cell (j := n * 6 + 4) (unhide HO3) (zero_at (unhide HN) 4)
          have e5 := own_cell (j := n * 6 + 5) (unhide HO3) (zero_at (unhide HN) 5)
          obtain ⟨e0a, e0b⟩ := e0
          obtain ⟨e1a, e1b⟩ := e1
          obtain ⟨e2a, e2b⟩ := e2
          obtain ⟨e3a, e3b⟩ := e3
          obtain ⟨e4a, e4b⟩ := e4
          obtain ⟨e5a, e5b⟩ := e5
          clear hown3 hgrow hat hlt3
          refine hKK.out _ _ (by exact (unhide HM).box) (fun hHeld => ?_)
          clear hKK KK
          try simp only [Act.put, List.setIfInBounds_toArray, List.set_cons_zero, List.set_cons_succ]
          refine wpAnyH_take (i := 8) (oi := { dst := some 71, op := Op.indexAddr 24 (Operand.tmp 70) (Operand.tmp 68), type := 0, pos := "ref.go:33", after := #[⟨7, .data⟩, ⟨5, .data⟩, ⟨0, .phase⟩, ⟨1, .phase⟩, ⟨2, .phase⟩, ⟨3, .phase⟩, ⟨4, .phase⟩, ⟨5, .phase⟩, ⟨6, .phase⟩, ⟨7, .phase⟩, { on := 12, ground := Ground.gcOnly Departure.appendInPlace }], guard := none }) (v := ?_) rfl (by kernel_rfl) (by kernel_rfl) (by kernel_rfl) (fun _ _ _ h => h) (Or.inl ⟨by rfl, ?_⟩) (by assumption) ?_
          rotate_left
          · intro w hSw; obtain ⟨s0, s1, s2, s3, s4, s5⟩ := Box.six hSw; go_simp; (try with_reducible rfl)
          simp only [Act.put, List.setIfInBounds_toArray, List.set_cons_zero, List.set_cons_succ]
          refine wpAnyH_take (i := 10) (oi := { dst := some 72, op := Op.nilCheck (Operand.tmp 63), type := 0, pos := "ref.go:33", after := #[⟨0, .data⟩, ⟨0, .phase⟩, ⟨1, .phase⟩, ⟨2, .phase⟩, ⟨3, .phase⟩, ⟨4, .phase⟩, ⟨5, .phase⟩, ⟨6, .phase⟩, ⟨7, .phase⟩, { on := 8, ground := Ground.textOnly Departure.appendInPlace }, { on := 9, ground := Ground.textOnly Departure.appendInPlace }], guard := none }) (v := ?_) rfl (by kernel_rfl) (by kernel_rfl) (by kernel_rfl) (fun _ _ _ h => h) (Or.inl ⟨by rfl, ?_⟩) (by assumption) ?_
          rotate_left
          · intro w hSw; obtain ⟨s0, s1, s2, s3, s4, s5⟩ := Box.six hSw; go_simp; (try with_reducible rfl)
          simp only [Act.put, List.setIfInBounds_toArray, List.set_cons_zero, List.set_cons_succ]
          refine wpAnyH_take (i := 11) (oi := { dst := some 73, op := Op.fieldAddr 59 (Operand.tmp 72) 0, type := 0, pos := "ref.go:33", after := #[⟨10, .data⟩, ⟨0, .phase⟩, ⟨1, .phase⟩, ⟨2, .phase⟩, ⟨3, .phase⟩, ⟨4, .phase⟩, ⟨5, .phase⟩, ⟨6, .phase⟩, ⟨7, .phase⟩, { on := 8, ground := Ground.textOnly Departure.appendInPlace }, { on := 9, ground := Ground.textOnly Departure.appendInPlace }], guard := none }) (v := ?_) rfl (by kernel_rfl) (by kernel_rfl) (by kernel_rfl) (fun _ _ _ h => h) (Or.inl ⟨by rfl, ?_⟩) (by assumption) ?_
          rotate_left
          · intro w hSw; obtain ⟨s0, s1, s2, s3, s4, s5⟩ := Box.six hSw; go_simp; (try with_reducible rfl)
          simp only [Act.put, List.setIfInBounds_toArray, List.set_cons_zero, List.set_cons_succ]
          refine wpAnyH_ready (rs := [9, 12]) (by kernel_rfl) (by simp) ?_
          refine AllReadyH.cons (o := { dst := none, op := Op.store 37 (Operand.tmp 71) (Operand.tmp 67), type := 0, pos := "ref.go:33", after := #[⟨8, .data⟩, ⟨4, .data⟩, ⟨7, .chain⟩, ⟨0, .phase⟩, ⟨1, .phase⟩, ⟨2, .phase⟩, ⟨3, .phase⟩, ⟨4, .phase⟩, ⟨5, .phase⟩, ⟨6, .phase⟩, ⟨7, .phase⟩, { on := 12, ground := Ground.gcOnly Departure.appendInPlace }], guard := none }) rfl (fun KK hKK => ?_) (AllReadyH.cons (o := { dst := none, op := Op.store 24 (Operand.tmp 73) (Operand.tmp 70), type := 0, pos := "ref.go:33", after := #[⟨11, .data⟩, ⟨7, .data⟩, ⟨7, .chain⟩, { on := 9, ground := Ground.textOnly Departure.appendInPlace }, ⟨0, .phase⟩, ⟨1, .phase⟩, ⟨2, .phase⟩, ⟨3, .phase⟩, ⟨4, .phase⟩, ⟨5, .phase⟩, ⟨6, .phase⟩, ⟨7, .phase⟩, { on := 8, ground := Ground.textOnly Departure.appendInPlace }, { on := 9, ground := Ground.textOnly Departure.appendInPlace }], guard := none }) rfl (fun KK hKK => ?_) AllReadyH.nil)
          · go_simp
            have d0A : ((((((w3.setCell ⟨gn, n * 6, none⟩ (.int .i64 p.kind)).setCell ⟨gn, n * 6 + 1, none⟩ (.string (BA p.text))).setCell ⟨gn, n * 6 + 2, none⟩ (.bool p.quote)).setCell ⟨gn, n * 6 + 3, none⟩ (.int .i64 p.op)).setCell ⟨gn, n * 6 + 4, none⟩ (.bool p.colon)).setCell ⟨gn, n * 6 + 5, none⟩ (.slice va vn vc)).cell? ⟨b, 0, none⟩ = some (.slice (some ⟨g, 0, none⟩) n cap) := Blk.cell (show Blk (T6 w3 gn (n * 6) (.int .i64 p.kind) (.string (BA p.text)) (.bool p.quote) (.int .i64 p.op) (.bool p.colon) (.slice va vn vc)) b 59 _ from (unhide HM).blk.grownS (T6_grown ..) (unhide HM).bg) 0 rfl
            have z0A : ((((((w3.setCell ⟨gn, n * 6, none⟩ (.int .i64 p.kind)).setCell ⟨gn, n * 6 + 1, none⟩ (.string (BA p.text))).setCell ⟨gn, n * 6 + 2, none⟩ (.bool p.quote)).setCell ⟨gn, n * 6 + 3, none⟩ (.int .i64 p.op)).setCell ⟨gn, n * 6 + 4, none⟩ (.bool p.colon)).setCell ⟨gn, n * 6 + 5, none⟩ (.slice va vn vc)).frozen? ⟨b, 0, none⟩ = false := Blk.frozen (show Blk (T6 w3 gn (n * 6) (.int .i64 p.kind) (.string (BA p.text)) (.bool p.quote) (.int .i64 p.op) (.bool p.colon) (.slice va vn vc)) b 59 _ from (unhide HM).blk.grownS (T6_grown ..) (unhide HM).bg) 0
            refine hKK.out _ _ (by exact show Box (T6 w3 gn (n * 6) (.int .i64 p.kind) (.string (BA p.text)) (.bool p.quote) (.int .i64 p.op) (.bool p.colon) (.slice va vn vc)) w.heap.size p (.slice va vn vc) from Blk.grownS (unhide HM).box (T6_grown ..) (unhide HM).qg) (fun hHeld => ?_)
            clear hKK KK
            try simp only [Act.put, List.setIfInBounds_toArray, List.set_cons_zero, List.set_cons_succ]
            refine wpAnyH_ready (rs := [12]) (by kernel_rfl) (by simp) ?_
            refine AllReadyH.cons (o := { dst := none, op := Op.store 24 (Operand.tmp 73) (Operand.tmp 70), type := 0, pos := "ref.go:33", after := #[⟨11, .data⟩, ⟨7, .data⟩, ⟨7, .chain⟩, { on := 9, ground := Ground.textOnly Departure.appendInPlace }, ⟨0, .phase⟩, ⟨1, .phase⟩, ⟨2, .phase⟩, ⟨3, .phase⟩, ⟨4, .phase⟩, ⟨5, .phase⟩, ⟨6, .phase⟩, ⟨7, .phase⟩, { on := 8, ground := Ground.textOnly Departure.appendInPlace }, { on := 9, ground := Ground.textOnly Departure.appendInPlace }], guard := none }) rfl (fun KK hKK => ?_) AllReadyH.nil
            go_simp
            refine hKK.out _ _ (by exact show Box ((T6 w3 gn (n * 6) (.int .i64 p.kind) (.string (BA p.text)) (.bool p.quote) (.int .i64 p.op) (.bool p.colon) (.slice va vn vc)).setCell ⟨b, 0, none⟩ (.slice (some ⟨gn, 0, none⟩) (n + 1) cg)) w.heap.size p (.slice va vn vc) from Blk.grownS (Blk.grownS (unhide HM).box (T6_grown ..) (unhide HM).qg) (setb_grown _ _ _ _) (unhide HM).qb) (fun hHeld => ?_)
            clear hKK KK
            try simp only [Act.put, List.setIfInBounds_toArray, List.set_cons_zero, List.set_cons_succ]
            clear hHeld
            refine wpAnyH_done (by kernel_rfl) ?_ _
            obtain ⟨w5, hw5⟩ : ∃ x, x = (((((((w3.setCell ⟨gn, n * 6, none⟩ (.int .i64 p.kind)).setCell ⟨gn, n * 6 + 1, none⟩ (.string (BA p.text))).setCell ⟨gn, n * 6 + 2, none⟩ (.bool p.quote)).setCell ⟨gn, n * 6 + 3, none⟩ (.int .i64 p.op)).setCell ⟨gn, n * 6 + 4, none⟩ (.bool p.colon)).setCell ⟨gn, n * 6 + 5, none⟩ (.slice va vn vc)).setCell ⟨b, 0, none⟩ (.slice (some ⟨gn, 0, none⟩) (n + 1) cg)) := ⟨_, rfl⟩
            have H5 : Hid (RAdds w b X (ps ++ [p]) er w5) := hide (by rw [hw5]; exact RAdds.trans (unhide HG2) (fun _ h => .inl h) ⟨_, ⟨_, _, (radd_finA (unhide HM) (unhide H2) (unhide HN) (unhide HO3) (unhide HSUB) (unhide HIN)).1, by rw [List.map_append, unhide HPS]; rfl⟩, (radd_finA (unhide HM) (unhide H2) (unhide HN) (unhide HO3) (unhide HSUB) (unhide HIN)).2, rmid_x (unhide HM) (unhide H2)⟩)
            rw [← hw5]
            go_wp2
            first | refine bodyPost_end (res0 rfl _ _) rfl ?_ | refine bodyPost_ret (res0 rfl _ _) rfl ?_
            exact ⟨rfl, by rw [unhide HNO]; exact unhide H5⟩
          · go_simp
            have HOB : Hid (World.ownsRow (w3.setCell ⟨b, 0, none⟩ (.slice (some ⟨gn, 0, none⟩) (n + 1) cg)) (b + 1) 37 6 (.slice (some ⟨gn, 0, none⟩) (n + 1) cg) (n + 1) (flatP L2 ++ [.int .i64 0, .string ⟨#[]⟩, .bool false, .int .i64 0, .bool false, .slice none 0 0])) := hide (own_grownS (unhide HO3) (setb_grown _ _ _ _) (fun k hk e => (unhide HM).bg ((ownb hk).trans e).symm))
            have t0 := own_cell (j := n * 6) (unhide HOB) (zero_at (unhide HN) 0)
            have t1 := own_cell (j := n * 6 + 1) (unhide HOB) (zero_at (unhide HN) 1)
            have t2 := own_cell (j := n * 6 + 2) (unhide HOB) (zero_at (unhide HN) 2)
            have t3 := own_cell (j := n * 6 + 3) (unhide HOB) (zero_at (unhide HN) 3)
            have t4 := own_cell (j := n * 6 + 4) (unhide HOB) (zero_at (unhide HN) 4)
            have t5 := own_cell (j := n * 6 + 5) (unhide HOB) (zero_at (unhide HN) 5)
            obtain ⟨t0a, t0b⟩ := t0
            obtain ⟨t1a, t1b⟩ := t1
            obtain ⟨t2a, t2b⟩ := t2
            obtain ⟨t3a, t3b⟩ := t3
            obtain ⟨t4a, t4b⟩ := t4
            obtain ⟨t5a, t5b⟩ := t5
            refine hKK.out _ _ (by exact Blk.grownS (unhide HM).box (setb_grown _ _ _ _) (unhide HM).qb) (fun hHeld => ?_)
            clear hKK KK
            try simp only [Act.put, List.setIfInBounds_toArray, List.set_cons_zero, List.set_cons_succ]
            refine wpAnyH_ready (rs := [9]) (by kernel_rfl) (by simp) ?_
            refine AllReadyH.cons (o := { dst := none, op := Op.store 37 (Operand.tmp 71) (Operand.tmp 67), type := 0, pos := "ref.go:33", after := #[⟨8, .data⟩, ⟨4, .data⟩, ⟨7, .chain⟩, ⟨0, .phase⟩, ⟨1, .phase⟩, ⟨2, .phase⟩, ⟨3, .phase⟩, ⟨4, .phase⟩, ⟨5, .phase⟩, ⟨6, .phase⟩, ⟨7, .phase⟩, { on := 12, ground := Ground.gcOnly Departure.appendInPlace }], guard := none }) rfl (fun KK hKK => ?_) AllReadyH.nil
            go_simp
            refine hKK.out _ _ (by exact show Box (T6 (w3.setCell ⟨b, 0, none⟩ (.slice (some ⟨gn, 0, none⟩) (n + 1) cg)) gn (n * 6) (.int .i64 p.kind) (.string (BA p.text)) (.bool p.quote) (.int .i64 p.op) (.bool p.colon) (.slice va vn vc)) w.heap.size p (.slice va vn vc) from Blk.grownS (Blk.grownS (unhide HM).box (setb_grown _ _ _ _) (unhide HM).qb) (T6_grown ..) (unhide HM).qg) (fun hHeld => ?_)
            clear hKK KK
            try simp only [Act.put, List.setIfInBounds_toArray, List.set_cons_zero, List.set_cons_succ]
            clear hHeld
            refine wpAnyH_done (by kernel_rfl) ?_ _
            obtain ⟨w5, hw5⟩ : ∃ x, x = (((((((w3.setCell ⟨b, 0, none⟩ (.slice (some ⟨gn, 0, none⟩) (n + 1) cg)).setCell ⟨gn, n * 6, none⟩ (.int .i64 p.kind)).setCell ⟨gn, n * 6 + 1, none⟩ (.string (BA p.text))).setCell ⟨gn, n * 6 + 2, none⟩ (.bool p.quote)).setCell ⟨gn, n * 6 + 3, none⟩ (.int .i64 p.op)).setCell ⟨gn, n * 6 + 4, none⟩ (.bool p.colon)).setCell ⟨gn, n * 6 + 5, none⟩ (.slice va vn vc)) := ⟨_, rfl⟩
            have H5 : Hid (RAdds w b X (ps ++ [p]) er w5) := hide (by rw [hw5]; exact RAdds.trans (unhide HG2) (fun _ h => .inl h) ⟨_, ⟨_, _, (radd_finB (unhide HM) (unhide H2) (unhide HN) (unhide HO3) (unhide HSUB) (unhide HIN)).1, by rw [List.map_append, unhide HPS]; rfl⟩, (radd_finB (unhide HM) (unhide H2) (unhide HN) (unhide HO3) (unhide HSUB) (unhide HIN)).2, rmid_x (unhide HM) (unhide H2)⟩)
            rw [← hw5]
            go_wp2
            first | refine bodyPost_end (res0 rfl _ _) rfl ?_ | refine bodyPost_ret (res0 rfl _ _) rfl ?_
            exact ⟨rfl, by rw [unhide HNO]; exact unhide H5⟩
        · go_simp
          have c0a : (w2.alloc (.cells #[.int .i64 0, .string ⟨#[]⟩, .bool false, .int .i64 0, .bool false, .slice none 0 0] 37)).cell? ⟨b, 0, none⟩ = some (.slice (some ⟨g, 0, none⟩) n cap) := cell_alloc c0 _
          have HBX1 : Hid (Box (w2.alloc (.cells #[.int .i64 0, .string ⟨#[]⟩, .bool false, .int .i64 0, .bool false, .slice none 0 0] 37)) w.heap.size p (.slice va vn vc)) := hide (Blk.alloc (unhide HBX) _)
          refine hKK.out _ _ (by exact unhide HBX1) (fun hHeld => ?_)
          clear hKK KK
          try simp only [Act.put, List.setIfInBounds_toArray, List.set_cons_zero, List.set_cons_succ]
          refine wpAnyH_ready (rs := [3]) (by kernel_rfl) (by simp) ?_
          refine AllReadyH.cons (o := { dst := some 66, op := Op.load 24 (Operand.tmp 65), type := 24, pos := "ref.go:33", after := #[⟨2, .data⟩], guard := none }) rfl (fun KK hKK => ?_) AllReadyH.nil
          go_simp
          refine hKK.out _ _ (by exact unhide HBX1) (fun hHeld => ?_)
          clear hKK KK
          try simp only [Act.put, List.setIfInBounds_toArray, List.set_cons_zero, List.set_cons_succ]
          refine wpAnyH_take (i := 5) (oi := { dst := some 68, op := Op.call { callee := Callee.builtin Builtin.len, args := #[Operand.tmp 66], argTypes := #[24] }, type := 3, pos := "ref.go:33", after := #[⟨3, .data⟩], guard := none }) (v := ?_) rfl (by kernel_rfl) (by kernel_rfl) (by kernel_rfl) (fun _ _ _ h => h) (Or.inl ⟨by rfl, ?_⟩) (by assumption) ?_
          rotate_left
          · intro w hSw; obtain ⟨s0, s1, s2, s3, s4, s5⟩ := Box.six hSw; go_simp; (try with_reducible rfl)
          simp only [Act.put, List.setIfInBounds_toArray, List.set_cons_zero, List.set_cons_succ]
          refine wpAnyH_ready (rs := [7]) (by kernel_rfl) (by simp) ?_
          refine AllReadyH.cons (o := { dst := some 70, op := Op.call { callee := Callee.builtin Builtin.append, args := #[Operand.tmp 66, Operand.tmp 69], argTypes := #[24, 24] }, type := 24, pos := "ref.go:33", after := #[⟨3, .data⟩, ⟨6, .data⟩, ⟨0, .phase⟩, ⟨1, .phase⟩, ⟨2, .phase⟩, ⟨3, .phase⟩, ⟨4, .phase⟩, ⟨5, .phase⟩, ⟨6, .phase⟩], guard := none }) rfl (fun KK hKK => ?_) AllReadyH.nil
          refine step_append_lies _ (by rfl) _ _ _ (by rfl) (b + 1) 37 iT _ 6 72 und_word hiT hzT0 hzT1 hzT2 rfl (by decide) (.slice (some ⟨g, 0, none⟩) n cap) n (flatP L2) (by simp [Act.eval]) (own_drew (World.ownsRow.alloc (unhide HROW) _)) ⟨w2.heap.size, 0, none⟩ 1 1 [.int .i64 0, .string ⟨#[]⟩, .bool false, .int .i64 0, .bool false, .slice none 0 0] (by simp [Act.eval]) rfl six_cells zero_is (by decide) (by unfold maxLen; omega) (by omega) (by simp; omega) (w2.heap.size + 1) (by simp) ?_
          intro gn cg w3 hown3 hgrow hat hlt3
          have HM := hide (radd_mid (unhide H2) hown3 hgrow hat (unhide HBX) (unhide HXQ))
          have HO3 := hide hown3
          have d0 : w3.cell? ⟨b, 0, none⟩ = some (.slice (some ⟨g, 0, none⟩) n cap) := (unhide HM).blk.cell 0 rfl
          have z0 : w3.frozen? ⟨b, 0, none⟩ = false := (unhide HM).blk.frozen 0
          have e0 := own_cell (j := n * 6) (unhide HO3) (zero_at (unhide HN) 0)
          have e1 := own_cell (j := n * 6 + 1) (unhide HO3) (zero_at (unhide HN) 1)
          have e2 := own_cell (j := n * 6 + 2) (unhide HO3) (zero_at (unhide HN) 2)
          have e3 := own_cell (j := n * 6 + 3) (unhide HO3) (zero_at (unhide HN) 3)
          have e4 := own_cell (j := n * 6 + 4) (unhide HO3) (zero_at (unhide HN) 4)
          have e5 := own_cell (j := n * 6 + 5) (unhide HO3) (zero_at (unhide HN) 5)
          obtain ⟨e0a, e0b⟩ := e0
          obtain ⟨e1a, e1b⟩ := e1
          obtain ⟨e2a, e2b⟩ := e2
          obtain ⟨e3a, e3b⟩ := e3
          obtain ⟨e4a, e4b⟩ := e4
          obtain ⟨e5a, e5b⟩ := e5
          clear hown3 hgrow hat hlt3
          refine hKK.out _ _ (by exact (unhide HM).box) (fun hHeld => ?_)
          clear hKK KK
          try simp only [Act.put, List.setIfInBounds_toArray, List.set_cons_zero, List.set_cons_succ]
          refine wpAnyH_take (i := 8) (oi := { dst := some 71, op := Op.indexAddr 24 (Operand.tmp 70) (Operand.tmp 68), type := 0, pos := "ref.go:33", after := #[⟨7, .data⟩, ⟨5, .data⟩, ⟨0, .phase⟩, ⟨1, .phase⟩, ⟨2, .phase⟩, ⟨3, .phase⟩, ⟨4, .phase⟩, ⟨5, .phase⟩, ⟨6, .phase⟩, ⟨7, .phase⟩, { on := 12, ground := Ground.gcOnly Departure.appendInPlace }], guard := none }) (v := ?_) rfl (by kernel_rfl) (by kernel_rfl) (by kernel_rfl) (fun _ _ _ h => h) (Or.inl ⟨by rfl, ?_⟩) (by assumption) ?_
          rotate_left
          · intro w hSw; obtain ⟨s0, s1, s2, s3, s4, s5⟩ := Box.six hSw; go_simp; (try with_reducible rfl)
          simp only [Act.put, List.setIfInBounds_toArray, List.set_cons_zero, List.set_cons_succ]
          refine wpAnyH_take (i := 10) (oi := { dst := some 72, op := Op.nilCheck (Operand.tmp 63), type := 0, pos := "ref.go:33", after := #[⟨0, .data⟩, ⟨0, .phase⟩, ⟨1, .phase⟩, ⟨2, .phase⟩, ⟨3, .phase⟩, ⟨4, .phase⟩, ⟨5, .phase⟩, ⟨6, .phase⟩, ⟨7, .phase⟩, { on := 8, ground := Ground.textOnly Departure.appendInPlace }, { on := 9, ground := Ground.textOnly Departure.appendInPlace }], guard := none }) (v := ?_) rfl (by kernel_rfl) (by kernel_rfl) (by kernel_rfl) (fun _ _ _ h => h) (Or.inl ⟨by rfl, ?_⟩) (by assumption) ?_
          rotate_left
          · intro w hSw; obtain ⟨s0, s1, s2, s3, s4, s5⟩ := Box.six hSw; go_simp; (try with_reducible rfl)
          simp only [Act.put, List.setIfInBounds_toArray, List.set_cons_zero, List.set_cons_succ]
          refine wpAnyH_take (i := 11) (oi := { dst := some 73, op := Op.fieldAddr 59 (Operand.tmp 72) 0, type := 0, pos := "ref.go:33", after := #[⟨10, .data⟩, ⟨0, .phase⟩, ⟨1, .phase⟩, ⟨2, .phase⟩, ⟨3, .phase⟩, ⟨4, .phase⟩, ⟨5, .phase⟩, ⟨6, .phase⟩, ⟨7, .phase⟩, { on := 8, ground := Ground.textOnly Departure.appendInPlace }, { on := 9, ground := Ground.textOnly Departure.appendInPlace }], guard := none }) (v := ?_) rfl (by kernel_rfl) (by kernel_rfl) (by kernel_rfl) (fun _ _ _ h => h) (Or.inl ⟨by rfl, ?_⟩) (by assumption) ?_
          rotate_left
          · intro w hSw; obtain ⟨s0, s1, s2, s3, s4, s5⟩ := Box.six hSw; go_simp; (try with_reducible rfl)
          simp only [Act.put, List.setIfInBounds_toArray, List.set_cons_zero, List.set_cons_succ]
          refine wpAnyH_ready (rs := [9, 12]) (by kernel_rfl) (by simp) ?_
          refine AllReadyH.cons (o := { dst := none, op := Op.store 37 (Operand.tmp 71) (Operand.tmp 67), type := 0, pos := "ref.go:33", after := #[⟨8, .data⟩, ⟨4, .data⟩, ⟨7, .chain⟩, ⟨0, .phase⟩, ⟨1, .phase⟩, ⟨2, .phase⟩, ⟨3, .phase⟩, ⟨4, .phase⟩, ⟨5, .phase⟩, ⟨6, .phase⟩, ⟨7, .phase⟩, { on := 12, ground := Ground.gcOnly Departure.appendInPlace }], guard := none }) rfl (fun KK hKK => ?_) (AllReadyH.cons (o := { dst := none, op := Op.store 24 (Operand.tmp 73) (Operand.tmp 70), type := 0, pos := "ref.go:33", after := #[⟨11, .data⟩, ⟨7, .data⟩, ⟨7, .chain⟩, { on := 9, ground := Ground.textOnly Departure.appendInPlace }, ⟨0, .phase⟩, ⟨1, .phase⟩, ⟨2, .phase⟩, ⟨3, .phase⟩, ⟨4, .phase⟩, ⟨5, .phase⟩, ⟨6, .phase⟩, ⟨7, .phase⟩, { on := 8, ground := Ground.textOnly Departure.appendInPlace }, { on := 9, ground := Ground.textOnly Departure.appendInPlace }], guard := none }) rfl (fun KK hKK => ?_) AllReadyH.nil)
          · go_simp
            have d0A : ((((((w3.setCell ⟨gn, n * 6, none⟩ (.int .i64 p.kind)).setCell ⟨gn, n * 6 + 1, none⟩ (.string (BA p.text))).setCell ⟨gn, n * 6 + 2, none⟩ (.bool p.quote)).setCell ⟨gn, n * 6 + 3, none⟩ (.int .i64 p.op)).setCell ⟨gn, n * 6 + 4, none⟩ (.bool p.colon)).setCell ⟨gn, n * 6 + 5, none⟩ (.slice va vn vc)).cell? ⟨b, 0, none⟩ = some (.slice (some ⟨g, 0, none⟩) n cap) := Blk.cell (show Blk (T6 w3 gn (n * 6) (.int .i64 p.kind) (.string (BA p.text)) (.bool p.quote) (.int .i64 p.op) (.bool p.colon) (.slice va vn vc)) b 59 _ from (unhide HM).blk.grownS (T6_grown ..) (unhide HM).bg) 0 rfl
            have z0A : ((((((w3.setCell ⟨gn, n * 6, none⟩ (.int .i64 p.kind)).setCell ⟨gn, n * 6 + 1, none⟩ (.string (BA p.text))).setCell ⟨gn, n * 6 + 2, none⟩ (.bool p.quote)).setCell ⟨gn, n * 6 + 3, none⟩ (.int .i64 p.op)).setCell ⟨gn, n * 6 + 4, none⟩ (.bool p.colon)).setCell ⟨gn, n * 6 + 5, none⟩ (.slice va vn vc)).frozen? ⟨b, 0, none⟩ = false := Blk.frozen (show Blk (T6 w3 gn (n * 6) (.int .i64 p.kind) (.string (BA p.text)) (.bool p.quote) (.int .i64 p.op) (.bool p.colon) (.slice va vn vc)) b 59 _ from (unhide HM).blk.grownS (T6_grown ..) (unhide HM).bg) 0
            refine hKK.out _ _ (by exact show Box (T6 w3 gn (n * 6) (.int .i64 p.kind) (.string (BA p.text)) (.bool p.quote) (.int .i64 p.op) (.bool p.colon) (.slice va vn vc)) w.heap.size p (.slice va vn vc) from Blk.grownS (unhide HM).box (T6_grown ..) (unhide HM).qg) (fun hHeld => ?_)
            clear hKK KK
            try simp only [Act.put, List.setIfInBounds_toArray, List.set_cons_zero, List.set_cons_succ]
            refine wpAnyH_ready (rs := [12]) (by kernel_rfl) (by simp) ?_
            refine AllReadyH.cons (o := { dst := none, op := Op.store 24 (Operand.tmp 73) (Operand.tmp 70), type := 0, pos := "ref.go:33", after := #[⟨11, .data⟩, ⟨7, .data⟩, ⟨7, .chain⟩, { on := 9, ground := Ground.textOnly Departure.appendInPlace }, ⟨0, .phase⟩, ⟨1, .phase⟩, ⟨2, .phase⟩, ⟨3, .phase⟩, ⟨4, .phase⟩, ⟨5, .phase⟩, ⟨6, .phase⟩, ⟨7, .phase⟩, { on := 8, ground := Ground.textOnly Departure.appendInPlace }, { on := 9, ground := Ground.textOnly Departure.appendInPlace }], guard := none }) rfl (fun KK hKK => ?_) AllReadyH.nil
            go_simp
            refine hKK.out _ _ (by exact show Box ((T6 w3 gn (n * 6) (.int .i64 p.kind) (.string (BA p.text)) (.bool p.quote) (.int .i64 p.op) (.bool p.colon) (.slice va vn vc)).setCell ⟨b, 0, none⟩ (.slice (some ⟨gn, 0, none⟩) (n + 1) cg)) w.heap.size p (.slice va vn vc) from Blk.grownS (Blk.grownS (unhide HM).box (T6_grown ..) (unhide HM).qg) (setb_grown _ _ _ _) (unhide HM).qb) (fun hHeld => ?_)
            clear hKK KK
            try simp only [Act.put, List.setIfInBounds_toArray, List.set_cons_zero, List.set_cons_succ]
            clear hHeld
            refine wpAnyH_done (by kernel_rfl) ?_ _
            obtain ⟨w5, hw5⟩ : ∃ x, x = (((((((w3.setCell ⟨gn, n * 6, none⟩ (.int .i64 p.kind)).setCell ⟨gn, n * 6 + 1, none⟩ (.string (BA p.text))).setCell ⟨gn, n * 6 + 2, none⟩ (.bool p.quote)).setCell ⟨gn, n * 6 + 3, none⟩ (.int .i64 p.op)).setCell ⟨gn, n * 6 + 4, none⟩ (.bool p.colon)).setCell ⟨gn, n * 6 + 5, none⟩ (.slice va vn vc)).setCell ⟨b, 0, none⟩ (.slice (some ⟨gn, 0, none⟩) (n + 1) cg)) := ⟨_, rfl⟩
            have H5 : Hid (RAdds w b X (ps ++ [p]) er w5) := hide (by rw [hw5]; exact RAdds.trans (unhide HG2) (fun _ h => .inl h) ⟨_, ⟨_, _, (radd_finA (unhide HM) (unhide H2) (unhide HN) (unhide HO3) (unhide HSUB) (unhide HIN)).1, by rw [List.map_append, unhide HPS]; rfl⟩, (radd_finA (unhide HM) (unhide H2) (unhide HN) (unhide HO3) (unhide HSUB) (unhide HIN)).2, rmid_x (unhide HM) (unhide H2)⟩)
            rw [← hw5]
            go_wp2
            first | refine bodyPost_end (res0 rfl _ _) rfl ?_ | refine bodyPost_ret (res0 rfl _ _) rfl ?_
            exact ⟨rfl, by rw [unhide HNO]; exact unhide H5⟩
          · go_simp
            have HOB : Hid (World.ownsRow (w3.setCell ⟨b, 0, none⟩ (.slice (some ⟨gn, 0, none⟩) (n + 1) cg)) (b + 1) 37 6 (.slice (some ⟨gn, 0, none⟩) (n + 1) cg) (n + 1) (flatP L2 ++ [.int .i64 0, .string ⟨#[]⟩, .bool false, .int .i64 0, .bool false, .slice none 0 0])) := hide (own_grownS (unhide HO3) (setb_grown _ _ _ _) (fun k hk e => (unhide HM).bg ((ownb hk).trans e).symm))
            have t0 := own_cell (j := n * 6) (unhide HOB) (zero_at (unhide HN) 0)
            have t1 := own_cell (j := n * 6 + 1) (unhide HOB) (zero_at (unhide HN) 1)
            have t2 := own_cell (j := n * 6 + 2) (unhide HOB) (zero_at (unhide HN) 2)
            have t3 := own_cell (j := n * 6 + 3) (unhide HOB) (zero_at (unhide HN) 3)
            have t4 := own_cell (j := n * 6 + 4) (unhide HOB) (zero_at (unhide HN) 4)
            have t5 := own_cell (j := n * 6 + 5) (unhide HOB) (zero_at (unhide HN) 5)
            obtain ⟨t0a, t0b⟩ := t0
            obtain ⟨t1a, t1b⟩ := t1
            obtain ⟨t2a, t2b⟩ := t2
            obtain ⟨t3a, t3b⟩ := t3
            obtain ⟨t4a, t4b⟩ := t4
            obtain ⟨t5a, t5b⟩ := t5
            refine hKK.out _ _ (by exact Blk.grownS (unhide HM).box (setb_grown _ _ _ _) (unhide HM).qb) (fun hHeld => ?_)
            clear hKK KK
            try simp only [Act.put, List.setIfInBounds_toArray, List.set_cons_zero, List.set_cons_succ]
            refine wpAnyH_ready (rs := [9]) (by kernel_rfl) (by simp) ?_
            refine AllReadyH.cons (o := { dst := none, op := Op.store 37 (Operand.tmp 71) (Operand.tmp 67), type := 0, pos := "ref.go:33", after := #[⟨8, .data⟩, ⟨4, .data⟩, ⟨7, .chain⟩, ⟨0, .phase⟩, ⟨1, .phase⟩, ⟨2, .phase⟩, ⟨3, .phase⟩, ⟨4, .phase⟩, ⟨5, .phase⟩, ⟨6, .phase⟩, ⟨7, .phase⟩, { on := 12, ground := Ground.gcOnly Departure.appendInPlace }], guard := none }) rfl (fun KK hKK => ?_) AllReadyH.nil
            go_simp
            refine hKK.out _ _ (by exact show Box (T6 (w3.setCell ⟨b, 0, none⟩ (.slice (some ⟨gn, 0, none⟩) (n + 1) cg)) gn (n * 6) (.int .i64 p.kind) (.string (BA p.text)) (.bool p.quote) (.int .i64 p.op) (.bool p.colon) (.slice va vn vc)) w.heap.size p (.slice va vn vc) from Blk.grownS (Blk.grownS (unhide HM).box (setb_grown _ _ _ _) (unhide HM).qb) (T6_grown ..) (unhide HM).qg) (fun hHeld => ?_)
            clear hKK KK
            try simp only [Act.put, List.setIfInBounds_toArray, List.set_cons_zero, List.set_cons_succ]
            clear hHeld
            refine wpAnyH_done (by kernel_rfl) ?_ _
            obtain ⟨w5, hw5⟩ : ∃ x, x = (((((((w3.setCell ⟨b, 0, none⟩ (.slice (some ⟨gn, 0, none⟩) (n + 1) cg)).setCell ⟨gn, n * 6, none⟩ (.int .i64 p.kind)).setCell ⟨gn, n * 6 + 1, none⟩ (.string (BA p.text))).setCell ⟨gn, n * 6 + 2, none⟩ (.bool p.quote)).setCell ⟨gn, n * 6 + 3, none⟩ (.int .i64 p.op)).setCell ⟨gn, n * 6 + 4, none⟩ (.bool p.colon)).setCell ⟨gn, n * 6 + 5, none⟩ (.slice va vn vc)) := ⟨_, rfl⟩
            have H5 : Hid (RAdds w b X (ps ++ [p]) er w5) := hide (by rw [hw5]; exact RAdds.trans (unhide HG2) (fun _ h => .inl h) ⟨_, ⟨_, _, (radd_finB (unhide HM) (unhide H2) (unhide HN) (unhide HO3) (unhide HSUB) (unhide HIN)).1, by rw [List.map_append, unhide HPS]; rfl⟩, (radd_finB (unhide HM) (unhide H2) (unhide HN) (unhide HO3) (unhide HSUB) (unhide HIN)).2, rmid_x (unhide HM) (unhide H2)⟩)
            rw [← hw5]
            go_wp2
            first | refine bodyPost_end (res0 rfl _ _) rfl ?_ | refine bodyPost_ret (res0 rfl _ _) rfl ?_
            exact ⟨rfl, by rw [unhide HNO]; exact unhide H5⟩
      | true =>
        have hyk1 : yk = 1 := eq_of_beq hyk
        cases hyq : (yq == p.quote) with
        | false =>
          have HNO : Hid (addP ps p = ps ++ [p]) := hide (by
            rw [← hps, hL, List.map_append]
            show addP (M.map Prod.fst ++ [.mk yk yt yq yo yc ys]) p = _
            rw [addP_snoc, if_neg]
            · simp
            · rintro ⟨_, _, e⟩
              rw [e] at hyq
              simp at hyq)
          clear h hn hps ht hL hkp hr hcell hnm hm hyk1
          go_enter Tryz.func28, Tryz.ntmps28
          go_wp2_with fail
          go_quiet (fail)
          go_wp2_with fail
          obtain ⟨w2, hw2⟩ : ∃ x, x = (w.alloc (.cells #[.int .i64 p.kind, .string (BA p.text), .bool p.quote, .int .i64 p.op, .bool p.colon, .slice va vn vc] 37)).drewN nq := ⟨_, rfl⟩
          have HB2 : Hid (Below w.heap.size w w2) := hide (by rw [hw2]; exact ((Below.refl _ w).alloc (Nat.le_refl _) _).trans ((below_drew _ _).mono (by simp)))
          have HBX : Hid (Box w2 w.heap.size p (.slice va vn vc)) := hide (by rw [hw2]; exact Blk.new w _ _)
          rw [← hw2]
          have hbw : b < w2.heap.size := by have h1 := (unhide HB2).size; have h2 := unhide HBL0; omega
          have HG2 : Hid (GrownS w w2 X) := hide (grownS_of_below (unhide HB2))
          have H2 : Hid (RWg w2 b X L2 (.slice (some ⟨g, 0, none⟩) n cap) er) := hide ((unhide H0).below (unhide HB2))
          clear hw2
          have hnn : (n : Int) < (n : Int) + 1 := by omega
          have HSUB : Hid (WAt w2 A (.slice va vn vc) p.sub) := hide ((unhide HS0).1.below (unhide HB2) (fun k hk => ((unhide HS0).2 k hk).2.1))
          have HIN : Hid (∀ k, A k → InW b X w2 k) := hide (fun k hk => ⟨((unhide HS0).2 k hk).1, Nat.lt_of_lt_of_le ((unhide HS0).2 k hk).2.1 (unhide HB2).size, ((unhide HS0).2 k hk).2.2⟩)
          have HROW : Hid (w2.ownsRow (b + 1) 37 6 (.slice (some ⟨g, 0, none⟩) n cap) n (flatP L2)) := hide (by have := (unhide H2).row; rwa [unhide HN] at this)
          have c0 : w2.cell? ⟨b, 0, none⟩ = some (.slice (some ⟨g, 0, none⟩) n cap) := (unhide H2).blk.cell 0 rfl
          refine wp_region_held_drew (S := fun w' => Box w' w.heap.size p (.slice va vn vc)) (by kernel_rfl) (by exact unhide HBX) (fun hHeld => ?_)
          refine wpAnyH_take (i := 0) (oi := { dst := some 63, op := Op.move (Operand.tmp 0), type := 57, pos := "ref.go:33", after := #[], guard := none }) (v := ?_) rfl (by kernel_rfl) (by kernel_rfl) (by kernel_rfl) (fun _ _ _ h => h) (Or.inl ⟨by rfl, ?_⟩) (by assumption) ?_
          rotate_left
          · intro w hSw; obtain ⟨s0, s1, s2, s3, s4, s5⟩ := Box.six hSw; go_simp; (try with_reducible rfl)
          simp only [Act.put, List.setIfInBounds_toArray, List.set_cons_zero, List.set_cons_succ]
          refine wpAnyH_take (i := 1) (oi := { dst := some 64, op := Op.nilCheck (Operand.tmp 63), type := 0, pos := "ref.go:33", after := #[⟨0, .data⟩], guard := none }) (v := ?_) rfl (by kernel_rfl) (by kernel_rfl) (by kernel_rfl) (fun _ _ _ h => h) (Or.inl ⟨by rfl, ?_⟩) (by assumption) ?_
          rotate_left
          · intro w hSw; obtain ⟨s0, s1, s2, s3, s4, s5⟩ := Box.six hSw; go_simp; (try with_reducible rfl)
          simp only [Act.put, List.setIfInBounds_toArray, List.set_cons_zero, List.set_cons_succ]
          refine wpAnyH_take (i := 2) (oi := { dst := some 65, op := Op.fieldAddr 59 (Operand.tmp 64) 0, type := 0, pos := "ref.go:33", after := #[⟨1, .data⟩], guard := none }) (v := ?_) rfl (by kernel_rfl) (by kernel_rfl) (by kernel_rfl) (fun _ _ _ h => h) (Or.inl ⟨by rfl, ?_⟩) (by assumption) ?_
          rotate_left
          · intro w hSw; obtain ⟨s0, s1, s2, s3, s4, s5⟩ := Box.six hSw; go_simp; (try with_reducible rfl)
          simp only [Act.put, List.setIfInBounds_toArray, List.set_cons_zero, List.set_cons_succ]
          refine wpAnyH_take (i := 4) (oi := { dst := some 67, op := Op.load 37 (Operand.tmp 3), type := 37, pos := "ref.go:33", after := #[], guard := none }) (v := ?_) rfl (by kernel_rfl) (by kernel_rfl) (by kernel_rfl) (fun _ _ _ h => h) (Or.inl ⟨by rfl, ?_⟩) (by assumption) ?_
          rotate_left
          · intro w hSw; obtain ⟨s0, s1, s2, s3, s4, s5⟩ := Box.six hSw; go_simp; (try with_reducible rfl)
          simp only [Act.put, List.setIfInBounds_toArray, List.set_cons_zero, List.set_cons_succ]
          refine wpAnyH_ready (rs := [3, 6]) (by kernel_rfl) (by simp) ?_
          refine AllReadyH.cons (o := { dst := some 66, op := Op.load 24 (Operand.tmp 65), type := 24, pos := "ref.go:33", after := #[⟨2, .data⟩], guard := none }) rfl (fun KK hKK => ?_) (AllReadyH.cons (o := { dst := some 69, op := Op.buildSlice 24 1 #[(0, Operand.const (Value.agg #[Value.int IntKind.i64 0, Value.string { data := #[] }, Value.bool false, Value.int IntKind.i64 0, Value.bool false, Value.slice none 0 0]))], type := 24, pos := "ref.go:33", after := #[], guard := none }) rfl (fun KK hKK => ?_) AllReadyH.nil)
          · go_simp
            refine hKK.out _ _ (by exact unhide HBX) (fun hHeld => ?_)
            clear hKK KK
            try simp only [Act.put, List.setIfInBounds_toArray, List.set_cons_zero, List.set_cons_succ]
            refine wpAnyH_take (i := 5) (oi := { dst := some 68, op := Op.call { callee := Callee.builtin Builtin.len, args := #[Operand.tmp 66], argTypes := #[24] }, type := 3, pos := "ref.go:33", after := #[⟨3, .data⟩], guard := none }) (v := ?_) rfl (by kernel_rfl) (by kernel_rfl) (by kernel_rfl) (fun _ _ _ h => h) (Or.inl ⟨by rfl, ?_⟩) (by assumption) ?_
            rotate_left
            · intro w hSw; obtain ⟨s0, s1, s2, s3, s4, s5⟩ := Box.six hSw; go_simp; (try with_reducible rfl)
            simp only [Act.put, List.setIfInBounds_toArray, List.set_cons_zero, List.set_cons_succ]
            refine wpAnyH_ready (rs := [6]) (by kernel_rfl) (by simp) ?_
            refine AllReadyH.cons (o := { dst := some 69, op := Op.buildSlice 24 1 #[(0, Operand.const (Value.agg #[Value.int IntKind.i64 0, Value.string { data := #[] }, Value.bool false, Value.int IntKind.i64 0, Value.bool false, Value.slice none 0 0]))], type := 24, pos := "ref.go:33", after := #[], guard := none }) rfl (fun KK hKK => ?_) AllReadyH.nil
            go_simp
            have c0a : (w2.alloc (.cells #[.int .i64 0, .string ⟨#[]⟩, .bool false, .int .i64 0, .bool false, .slice none 0 0] 37)).cell? ⟨b, 0, none⟩ = some (.slice (some ⟨g, 0, none⟩) n cap) := cell_alloc c0 _
            have HBX1 : Hid (Box (w2.alloc (.cells #[.int .i64 0, .string ⟨#[]⟩, .bool false, .int .i64 0, .bool false, .slice none 0 0] 37)) w.heap.size p (.slice va vn vc)) := hide (Blk.alloc (unhide HBX) _)
            refine hKK.out _ _ (by exact unhide HBX1) (fun hHeld => ?_)
            clear hKK KK
            try simp only [Act.put, List.setIfInBounds_toArray, List.set_cons_zero, List.set_cons_succ]
            refine wpAnyH_ready (rs := [7]) (by kernel_rfl) (by simp) ?_
            refine AllReadyH.cons (o := { dst := some 70, op := Op.call { callee := Callee.builtin Builtin.append, args := #[Operand.tmp 66, Operand.tmp 69], argTypes := #[24, 24] }, type := 24, pos := "ref.go:33", after := #[⟨3, .data⟩, ⟨6, .data⟩, ⟨0, .phase⟩, ⟨1, .phase⟩, ⟨2, .phase⟩, ⟨3, .phase⟩, ⟨4, .phase⟩, ⟨5, .phase⟩, ⟨6, .phase⟩], guard := none }) rfl (fun KK hKK => ?_) AllReadyH.nil
            refine step_append_lies _ (by rfl) _ _ _ (by rfl) (b + 1) 37 iT _ 6 72 und_word hiT hzT0 hzT1 hzT2 rfl (by decide) (.slice (some ⟨g, 0, none⟩) n cap) n (flatP L2) (by simp [Act.eval]) (own_drew (World.ownsRow.alloc (unhide HROW) _)) ⟨w2.heap.size, 0, none⟩ 1 1 [.int .i64 0, .string ⟨#[]⟩, .bool false, .int .i64 0, .bool false, .slice none 0 0] (by simp [Act.eval]) rfl six_cells zero_is (by decide) (by unfold maxLen; omega) (by omega) (by simp; omega) (w2.heap.size + 1) (by simp) ?_
            intro gn cg w3 hown3 hgrow hat hlt3
            have HM := hide (radd_mid (unhide H2) hown3 hgrow hat (unhide HBX) (unhide HXQ))
            have HO3 := hide hown3
            have d0 : w3.cell? ⟨b, 0, none⟩ = some (.slice (some ⟨g, 0, none⟩) n cap) := (unhide HM).blk.cell 0 rfl
            have z0 : w3.frozen? ⟨b, 0, none⟩ = false := (unhide HM).blk.frozen 0
            have e0 := own_cell (j := n * 6) (unhide HO3) (zero_at (unhide HN) 0)
            have e1 := own_cell (j := n * 6 + 1) (unhide HO3) (zero_at (unhide HN) 1)
            have e2 := own_cell (j := n * 6 + 2) (unhide HO3) (zero_at (unhide HN) 2)
            have e3 := own_cell (j := n * 6 + 3) (unhide HO3) (zero_at (unhide HN) 3)
            have e4 := own_cell (j := n * 6 + 4) (unhide HO3) (zero_at (unhide HN) 4)
            have e5 := own_cell (j := n * 6 + 5) (unhide HO3) (zero_at (unhide HN) 5)
            obtain ⟨e0a, e0b⟩ := e0
            obtain ⟨e1a, e1b⟩ := e1
            obtain ⟨e2a, e2b⟩ := e2
            obtain ⟨e3a, e3b⟩ := e3
            obtain ⟨e4a, e4b⟩ := e4
            obtain ⟨e5a, e5b⟩ := e5
            clear hown3 hgrow hat hlt3
            refine hKK.out _ _ (by exact (unhide HM).box) (fun hHeld => ?_)
            clear hKK KK
            try simp only [Act.put, List.setIfInBounds_toArray, List.set_cons_zero, List.set_cons_succ]
            refine wpAnyH_take (i := 8) (oi := { dst := some 71, op := Op.indexAddr 24 (Operand.tmp 70) (Operand.tmp 68), type := 0, pos := "ref.go:33", after := #[⟨7, .data⟩, ⟨5, .data⟩, ⟨0, .phase⟩, ⟨1, .phase⟩, ⟨2, .phase⟩, ⟨3, .phase⟩, ⟨4, .phase⟩, ⟨5, .phase⟩, ⟨6, .phase⟩, ⟨7, .phase⟩, { on := 12, ground := Ground.gcOnly Departure.appendInPlace }], guard := none }) (v := ?_) rfl (by kernel_rfl) (by kernel_rfl) (by kernel_rfl) (fun _ _ _ h => h) (Or.inl ⟨by rfl, ?_⟩) (by assumption) ?_
            rotate_left
            · intro w hSw; obtain ⟨s0, s1, s2, s3, s4, s5⟩ := Box.six hSw; go_simp; (try with_reducible rfl)
            simp only [Act.put, List.setIfInBounds_toArray, List.set_cons_zero, List.set_cons_succ]
            refine wpAnyH_take (i := 10) (oi := { dst := some 72, op := Op.nilCheck (Operand.tmp 63), type := 0, pos := "ref.go:33", after := #[⟨0, .data⟩, ⟨0, .phase⟩, ⟨1, .phase⟩, ⟨2, .phase⟩, ⟨3, .phase⟩, ⟨4, .phase⟩, ⟨5, .phase⟩, ⟨6, .phase⟩, ⟨7, .phase⟩, { on := 8, ground := Ground.textOnly Departure.appendInPlace }, { on := 9, ground := Ground.textOnly Departure.appendInPlace }], guard := none }) (v := ?_) rfl (by kernel_rfl) (by kernel_rfl) (by kernel_rfl) (fun _ _ _ h => h) (Or.inl ⟨by rfl, ?_⟩) (by assumption) ?_
            rotate_left
            · intro w hSw; obtain ⟨s0, s1, s2, s3, s4, s5⟩ := Box.six hSw; go_simp; (try with_reducible rfl)
            simp only [Act.put, List.setIfInBounds_toArray, List.set_cons_zero, List.set_cons_succ]
            refine wpAnyH_take (i := 11) (oi := { dst := some 73, op := Op.fieldAddr 59 (Operand.tmp 72) 0, type := 0, pos := "ref.go:33", after := #[⟨10, .data⟩, ⟨0, .phase⟩, ⟨1, .phase⟩, ⟨2, .phase⟩, ⟨3, .phase⟩, ⟨4, .phase⟩, ⟨5, .phase⟩, ⟨6, .phase⟩, ⟨7, .phase⟩, { on := 8, ground := Ground.textOnly Departure.appendInPlace }, { on := 9, ground := Ground.textOnly Departure.appendInPlace }], guard := none }) (v := ?_) rfl (by kernel_rfl) (by kernel_rfl) (by kernel_rfl) (fun _ _ _ h => h) (Or.inl ⟨by rfl, ?_⟩) (by assumption) ?_
            rotate_left
            · intro w hSw; obtain ⟨s0, s1, s2, s3, s4, s5⟩ := Box.six hSw; go_simp; (try with_reducible rfl)
            simp only [Act.put, List.setIfInBounds_toArray, List.set_cons_zero, List.set_cons_succ]
            refine wpAnyH_ready (rs := [9, 12]) (by kernel_rfl) (by simp) ?_
            refine AllReadyH.cons (o := { dst := none, op := Op.store 37 (Operand.tmp 71) (Operand.tmp 67), type := 0, pos := "ref.go:33", after := #[⟨8, .data⟩, ⟨4, .data⟩, ⟨7, .chain⟩, ⟨0, .phase⟩, ⟨1, .phase⟩, ⟨2, .phase⟩, ⟨3, .phase⟩, ⟨4, .phase⟩, ⟨5, .phase⟩, ⟨6, .phase⟩, ⟨7, .phase⟩, { on := 12, ground := Ground.gcOnly Departure.appendInPlace }], guard := none }) rfl (fun KK hKK => ?_) (AllReadyH.cons (o := { dst := none, op := Op.store 24 (Operand.tmp 73) (Operand.tmp 70), type := 0, pos := "ref.go:33", after := #[⟨11, .data⟩, ⟨7, .data⟩, ⟨7, .chain⟩, { on := 9, ground := Ground.textOnly Departure.appendInPlace }, ⟨0, .phase⟩, ⟨1, .phase⟩, ⟨2, .phase⟩, ⟨3, .phase⟩, ⟨4, .phase⟩, ⟨5, .phase⟩, ⟨6, .phase⟩, ⟨7, .phase⟩, { on := 8, ground := Ground.textOnly Departure.appendInPlace }, { on := 9, ground := Ground.textOnly Departure.appendInPlace }], guard := none }) rfl (fun KK hKK => ?_) AllReadyH.nil)
            · go_simp
              have d0A : ((((((w3.setCell ⟨gn, n * 6, none⟩ (.int .i64 p.kind)).setCell ⟨gn, n * 6 + 1, none⟩ (.string (BA p.text))).setCell ⟨gn, n * 6 + 2, none⟩ (.bool p.quote)).setCell ⟨gn, n * 6 + 3, none⟩ (.int .i64 p.op)).setCell ⟨gn, n * 6 + 4, none⟩ (.bool p.colon)).setCell ⟨gn, n * 6 + 5, none⟩ (.slice va vn vc)).cell? ⟨b, 0, none⟩ = some (.slice (some ⟨g, 0, none⟩) n cap) := Blk.cell (show Blk (T6 w3 gn (n * 6) (.int .i64 p.kind) (.string (BA p.text)) (.bool p.quote) (.int .i64 p.op) (.bool p.colon) (.slice va vn vc)) b 59 _ from (unhide HM).blk.grownS (T6_grown ..) (unhide HM).bg) 0 rfl
              have z0A : ((((((w3.setCell ⟨gn, n * 6, none⟩ (.int .i64 p.kind)).setCell ⟨gn, n * 6 + 1, none⟩ (.string (BA p.text))).setCell ⟨gn, n * 6 + 2, none⟩ (.bool p.quote)).setCell ⟨gn, n * 6 + 3, none⟩ (.int .i64 p.op)).setCell ⟨gn, n * 6 + 4, none⟩ (.bool p.colon)).setCell ⟨gn, n * 6 + 5, none⟩ (.slice va vn vc)).frozen? ⟨b, 0, none⟩ = false := Blk.frozen (show Blk (T6 w3 gn (n * 6) (.int .i64 p.kind) (.string (BA p.text)) (.bool p.quote) (.int .i64 p.op) (.bool p.colon) (.slice va vn vc)) b 59 _ from (unhide HM).blk.grownS (T6_grown ..) (unhide HM).bg) 0
              refine hKK.out _ _ (by exact show Box (T6 w3 gn (n * 6) (.int .i64 p.kind) (.string (BA p.text)) (.bool p.quote) (.int .i64 p.op) (.bool p.colon) (.slice va vn vc)) w.heap.size p (.slice va vn vc) from Blk.grownS (unhide HM).box (T6_grown ..) (unhide HM).qg) (fun hHeld => ?_)
              clear hKK KK
              try simp only [Act.put, List.setIfInBounds_toArray, List.set_cons_zero, List.set_cons_succ]
              refine wpAnyH_ready (rs := [12]) (by kernel_rfl) (by simp) ?_
              refine AllReadyH.cons (o := { dst := none, op := Op.store 24 (Operand.tmp 73) (Operand.tmp 70), type := 0, pos := "ref.go:33", after := #[⟨11, .data⟩, ⟨7, .data⟩, ⟨7, .chain⟩, { on := 9, ground := Ground.textOnly Departure.appendInPlace }, ⟨0, .phase⟩, ⟨1, .phase⟩, ⟨2, .phase⟩, ⟨3, .phase⟩, ⟨4, .phase⟩, ⟨5, .phase⟩, ⟨6, .phase⟩, ⟨7, .phase⟩, { on := 8, ground := Ground.textOnly Departure.appendInPlace }, { on := 9, ground := Ground.textOnly Departure.appendInPlace }], guard := none }) rfl (fun KK hKK => ?_) AllReadyH.nil
              go_simp
              refine hKK.out _ _ (by exact show Box ((T6 w3 gn (n * 6) (.int .i64 p.kind) (.string (BA p.text)) (.bool p.quote) (.int .i64 p.op) (.bool p.colon) (.slice va vn vc)).setCell ⟨b, 0, none⟩ (.slice (some ⟨gn, 0, none⟩) (n + 1) cg)) w.heap.size p (.slice va vn vc) from Blk.grownS (Blk.grownS (unhide HM).box (T6_grown ..) (unhide HM).qg) (setb_grown _ _ _ _) (unhide HM).qb) (fun hHeld => ?_)
              clear hKK KK
              try simp only [Act.put, List.setIfInBounds_toArray, List.set_cons_zero, List.set_cons_succ]
              clear hHeld
              refine wpAnyH_done (by kernel_rfl) ?_ _
              obtain ⟨w5, hw5⟩ : ∃ x, x = (((((((w3.setCell ⟨gn, n * 6, none⟩ (.int .i64 p.kind)).setCell ⟨gn, n * 6 + 1, none⟩ (.string (BA p.text))).setCell ⟨gn, n * 6 + 2, none⟩ (.bool p.quote)).setCell ⟨gn, n * 6 + 3, none⟩ (.int .i64 p.op)).setCell ⟨gn, n * 6 + 4, none⟩ (.bool p.colon)).setCell ⟨gn, n * 6 + 5, none⟩ (.slice va vn vc)).setCell ⟨b, 0, none⟩ (.slice (some ⟨gn, 0, none⟩) (n + 1) cg)) := ⟨_, rfl⟩
              have H5 : Hid (RAdds w b X (ps ++ [p]) er w5) := hide (by rw [hw5]; exact RAdds.trans (unhide HG2) (fun _ h => .inl h) ⟨_, ⟨_, _, (radd_finA (unhide HM) (unhide H2) (unhide HN) (unhide HO3) (unhide HSUB) (unhide HIN)).1, by rw [List.map_append, unhide HPS]; rfl⟩, (radd_finA (unhide HM) (unhide H2) (unhide HN) (unhide HO3) (unhide HSUB) (unhide HIN)).2, rmid_x (unhide HM) (unhide H2)⟩)
              rw [← hw5]
              go_wp2
              first | refine bodyPost_end (res0 rfl _ _) rfl ?_ | refine bodyPost_ret (res0 rfl _ _) rfl ?_
              exact ⟨rfl, by rw [unhide HNO]; exact unhide H5⟩
            · go_simp
              have HOB : Hid (World.ownsRow (w3.setCell ⟨b, 0, none⟩ (.slice (some ⟨gn, 0, none⟩) (n + 1) cg)) (b + 1) 37 6 (.slice (some ⟨gn, 0, none⟩) (n + 1) cg) (n + 1) (flatP L2 ++ [.int .i64 0, .string ⟨#[]⟩, .bool false, .int .i64 0, .bool false, .slice none 0 0])) := hide (own_grownS (unhide HO3) (setb_grown _ _ _ _) (fun k hk e => (unhide HM).bg ((ownb hk).trans e).symm))
              have t0 := own_cell (j := n * 6) (unhide HOB) (zero_at (unhide HN) 0)
              have t1 := own_cell (j := n * 6 + 1) (unhide HOB) (zero_at (unhide HN) 1)
              have t2 := own_cell (j := n * 6 + 2) (unhide HOB) (zero_at (unhide HN) 2)
              have t3 := own_cell (j := n * 6 + 3) (unhide HOB) (zero_at (unhide HN) 3)
              have t4 := own_cell (j := n * 6 + 4) (unhide HOB) (zero_at (unhide HN) 4)
              have t5 := own_cell (j := n * 6 + 5) (unhide HOB) (zero_at (unhide HN) 5)
              obtain ⟨t0a, t0b⟩ := t0
              obtain ⟨t1a, t1b⟩ := t1
              obtain ⟨t2a, t2b⟩ := t2
              obtain ⟨t3a, t3b⟩ := t3
              obtain ⟨t4a, t4b⟩ := t4
              obtain ⟨t5a, t5b⟩ := t5
              refine hKK.out _ _ (by exact Blk.grownS (unhide HM).box (setb_grown _ _ _ _) (unhide HM).qb) (fun hHeld => ?_)
              clear hKK KK
              try simp only [Act.put, List.setIfInBounds_toArray, List.set_cons_zero, List.set_cons_succ]
              refine wpAnyH_ready (rs := [9]) (by kernel_rfl) (by simp) ?_
              refine AllReadyH.cons (o := { dst := none, op := Op.store 37 (Operand.tmp 71) (Operand.tmp 67), type := 0, pos := "ref.go:33", after := #[⟨8, .data⟩, ⟨4, .data⟩, ⟨7, .chain⟩, ⟨0, .phase⟩, ⟨1, .phase⟩, ⟨2, .phase⟩, ⟨3, .phase⟩, ⟨4, .phase⟩, ⟨5, .phase⟩, ⟨6, .phase⟩, ⟨7, .phase⟩, { on := 12, ground := Ground.gcOnly Departure.appendInPlace }], guard := none }) rfl (fun KK hKK => ?_) AllReadyH.nil
              go_simp
              refine hKK.out _ _ (by exact show Box (T6 (w3.setCell ⟨b, 0, none⟩ (.slice (some ⟨gn, 0, none⟩) (n + 1) cg)) gn (n * 6) (.int .i64 p.kind) (.string (BA p.text)) (.bool p.quote) (.int .i64 p.op) (.bool p.colon) (.slice va vn vc)) w.heap.size p (.slice va vn vc) from Blk.grownS (Blk.grownS (unhide HM).box (setb_grown _ _ _ _) (unhide HM).qb) (T6_grown ..) (unhide HM).qg) (fun hHeld => ?_)
              clear hKK KK
              try simp only [Act.put, List.setIfInBounds_toArray, List.set_cons_zero, List.set_cons_succ]
              clear hHeld
              refine wpAnyH_done (by kernel_rfl) ?_ _
              obtain ⟨w5, hw5⟩ : ∃ x, x = (((((((w3.setCell ⟨b, 0, none⟩ (.slice (some ⟨gn, 0, none⟩) (n + 1) cg)).setCell ⟨gn, n * 6, none⟩ (.int .i64 p.kind)).setCell ⟨gn, n * 6 + 1, none⟩ (.string (BA p.text))).setCell ⟨gn, n * 6 + 2, none⟩ (.bool p.quote)).setCell ⟨gn, n * 6 + 3, none⟩ (.int .i64 p.op)).setCell ⟨gn, n * 6 + 4, none⟩ (.bool p.colon)).setCell ⟨gn, n * 6 + 5, none⟩ (.slice va vn vc)) := ⟨_, rfl⟩
              have H5 : Hid (RAdds w b X (ps ++ [p]) er w5) := hide (by rw [hw5]; exact RAdds.trans (unhide HG2) (fun _ h => .inl h) ⟨_, ⟨_, _, (radd_finB (unhide HM) (unhide H2) (unhide HN) (unhide HO3) (unhide HSUB) (unhide HIN)).1, by rw [List.map_append, unhide HPS]; rfl⟩, (radd_finB (unhide HM) (unhide H2) (unhide HN) (unhide HO3) (unhide HSUB) (unhide HIN)).2, rmid_x (unhide HM) (unhide H2)⟩)
              rw [← hw5]
              go_wp2
              first | refine bodyPost_end (res0 rfl _ _) rfl ?_ | refine bodyPost_ret (res0 rfl _ _) rfl ?_
              exact ⟨rfl, by rw [unhide HNO]; exact unhide H5⟩
          · go_simp
            have c0a : (w2.alloc (.cells #[.int .i64 0, .string ⟨#[]⟩, .bool false, .int .i64 0, .bool false, .slice none 0 0] 37)).cell? ⟨b, 0, none⟩ = some (.slice (some ⟨g, 0, none⟩) n cap) := cell_alloc c0 _
            have HBX1 : Hid (Box (w2.alloc (.cells #[.int .i64 0, .string ⟨#[]⟩, .bool false, .int .i64 0, .bool false, .slice none 0 0] 37)) w.heap.size p (.slice va vn vc)) := hide (Blk.alloc (unhide HBX) _)
            refine hKK.out _ _ (by exact unhide HBX1) (fun hHeld => ?_)
            clear hKK KK
            try simp only [Act.put, List.setIfInBounds_toArray, List.set_cons_zero, List.set_cons_succ]
            refine wpAnyH_ready (rs := [3]) (by kernel_rfl) (by simp) ?_
            refine AllReadyH.cons (o := { dst := some 66, op := Op.load 24 (Operand.tmp 65), type := 24, pos := "ref.go:33", after := #[⟨2, .data⟩], guard := none }) rfl (fun KK hKK => ?_) AllReadyH.nil
            go_simp
            refine hKK.out _ _ (by exact unhide HBX1) (fun hHeld => ?_)
            clear hKK KK
            try simp only [Act.put, List.setIfInBounds_toArray, List.set_cons_zero, List.set_cons_succ]
            refine wpAnyH_take (i := 5) (oi := { dst := some 68, op := Op.call { callee := Callee.builtin Builtin.len, args := #[Operand.tmp 66], argTypes := #[24] }, type := 3, pos := "ref.go:33", after := #[⟨3, .data⟩], guard := none }) (v := ?_) rfl (by kernel_rfl) (by kernel_rfl) (by kernel_rfl) (fun _ _ _ h => h) (Or.inl ⟨by rfl, ?_⟩) (by assumption) ?_
            rotate_left
            · intro w hSw; obtain ⟨s0, s1, s2, s3, s4, s5⟩ := Box.six hSw; go_simp; (try with_reducible rfl)
            simp only [Act.put, List.setIfInBounds_toArray, List.set_cons_zero, List.set_cons_succ]
            refine wpAnyH_ready (rs := [7]) (by kernel_rfl) (by simp) ?_
            refine AllReadyH.cons (o := { dst := some 70, op := Op.call { callee := Callee.builtin Builtin.append, args := #[Operand.tmp 66, Operand.tmp 69], argTypes := #[24, 24] }, type := 24, pos := "ref.go:33", after := #[⟨3, .data⟩, ⟨6, .data⟩, ⟨0, .phase⟩, ⟨1, .phase⟩, ⟨2, .phase⟩, ⟨3, .phase⟩, ⟨4, .phase⟩, ⟨5, .phase⟩, ⟨6, .phase⟩], guard := none }) rfl (fun KK hKK => ?_) AllReadyH.nil
            refine step_append_lies _ (by rfl) _ _ _ (by rfl) (b + 1) 37 iT _ 6 72 und_word hiT hzT0 hzT1 hzT2 rfl (by decide) (.slice (some ⟨g, 0, none⟩) n cap) n (flatP L2) (by simp [Act.eval]) (own_drew (World.ownsRow.alloc (unhide HROW) _)) ⟨w2.heap.size, 0, none⟩ 1 1 [.int .i64 0, .string ⟨#[]⟩, .bool false, .int .i64 0, .bool false, .slice none 0 0] (by simp [Act.eval]) rfl six_cells zero_is (by decide) (by unfold maxLen; omega) (by omega) (by simp; omega) (w2.heap.size + 1) (by simp) ?_
            intro gn cg w3 hown3 hgrow hat hlt3
            have HM := hide (radd_mid (unhide H2) hown3 hgrow hat (unhide HBX) (unhide HXQ))
            have HO3 := hide hown3
            have d0 : w3.cell? ⟨b, 0, none⟩ = some (.slice (some ⟨g, 0, none⟩) n cap) := (unhide HM).blk.cell 0 rfl
            have z0 : w3.frozen? ⟨b, 0, none⟩ = false := (unhide HM).blk.frozen 0
            have e0 := own_cell (j := n * 6) (unhide HO3) (zero_at (unhide HN) 0)
            have e1 := own_cell (j := n * 6 + 1) (unhide HO3) (zero_at (unhide HN) 1)
            have e2 := own_cell (j := n * 6 + 2) (unhide HO3) (zero_at (unhide HN) 2)
            have e3 := own_cell (j := n * 6 + 3) (unhide HO3) (zero_at (unhide HN) 3)
            have e4 := own_cell (j := n * 6 + 4) (unhide HO3) (zero_at (unhide HN) 4)
            have e5 := own_cell (j := n * 6 + 5) (unhide HO3) (zero_at (unhide HN) 5)
            obtain ⟨e0a, e0b⟩ := e0
            obtain ⟨e1a, e1b⟩ := e1
            obtain ⟨e2a, e2b⟩ := e2
            obtain ⟨e3a, e3b⟩ := e3
            obtain ⟨e4a, e4b⟩ := e4
            obtain ⟨e5a, e5b⟩ := e5
            clear hown3 hgrow hat hlt3
            refine hKK.out _ _ (by exact (unhide HM).box) (fun hHeld => ?_)
            clear hKK KK
            try simp only [Act.put, List.setIfInBounds_toArray, List.set_cons_zero, List.set_cons_succ]
            refine wpAnyH_take (i := 8) (oi := { dst := some 71, op := Op.indexAddr 24 (Operand.tmp 70) (Operand.tmp 68), type := 0, pos := "ref.go:33", after := #[⟨7, .data⟩, ⟨5, .data⟩, ⟨0, .phase⟩, ⟨1, .phase⟩, ⟨2, .phase⟩, ⟨3, .phase⟩, ⟨4, .phase⟩, ⟨5, .phase⟩, ⟨6, .phase⟩, ⟨7, .phase⟩, { on := 12, ground := Ground.gcOnly Departure.appendInPlace }], guard := none }) (v := ?_) rfl (by kernel_rfl) (by kernel_rfl) (by kernel_rfl) (fun _ _ _ h => h) (Or.inl ⟨by rfl, ?_⟩) (by assumption) ?_
            rotate_left
            · intro w hSw; obtain ⟨s0, s1, s2, s3, s4, s5⟩ := Box.six hSw; go_simp; (try with_reducible rfl)
            simp only [Act.put, List.setIfInBounds_toArray, List.set_cons_zero, List.set_cons_succ]
            refine wpAnyH_take (i := 10) (oi := { dst := some 72, op := Op.nilCheck (Operand.tmp 63), type := 0, pos := "ref.go:33", after := #[⟨0, .data⟩, ⟨0, .phase⟩, ⟨1, .phase⟩, ⟨2, .phase⟩, ⟨3, .phase⟩, ⟨4, .phase⟩, ⟨5, .phase⟩, ⟨6, .phase⟩, ⟨7, .phase⟩, { on := 8, ground := Ground.textOnly Departure.appendInPlace }, { on := 9, ground := Ground.textOnly Departure.appendInPlace }], guard := none }) (v := ?_) rfl (by kernel_rfl) (by kernel_rfl) (by kernel_rfl) (fun _ _ _ h => h) (Or.inl ⟨by rfl, ?_⟩) (by assumption) ?_
            rotate_left
            · intro w hSw; obtain ⟨s0, s1, s2, s3, s4, s5⟩ := Box.six hSw; go_simp; (try with_reducible rfl)
            simp only [Act.put, List.setIfInBounds_toArray, List.set_cons_zero, List.set_cons_succ]
            refine wpAnyH_take (i := 11) (oi := { dst := some 73, op := Op.fieldAddr 59 (Operand.tmp 72) 0, type := 0, pos := "ref.go:33", after := #[⟨10, .data⟩, ⟨0, .phase⟩, ⟨1, .phase⟩, ⟨2, .phase⟩, ⟨3, .phase⟩, ⟨4, .phase⟩, ⟨5, .phase⟩, ⟨6, .phase⟩, ⟨7, .phase⟩, { on := 8, ground := Ground.textOnly Departure.appendInPlace }, { on := 9, ground := Ground.textOnly Departure.appendInPlace }], guard := none }) (v := ?_) rfl (by kernel_rfl) (by kernel_rfl) (by kernel_rfl) (fun _ _ _ h => h) (Or.inl ⟨by rfl, ?_⟩) (by assumption) ?_
            rotate_left
            · intro w hSw; obtain ⟨s0, s1, s2, s3, s4, s5⟩ := Box.six hSw; go_simp; (try with_reducible rfl)
            simp only [Act.put, List.setIfInBounds_toArray, List.set_cons_zero, List.set_cons_succ]
            refine wpAnyH_ready (rs := [9, 12]) (by kernel_rfl) (by simp) ?_
            refine AllReadyH.cons (o := { dst := none, op := Op.store 37 (Operand.tmp 71) (Operand.tmp 67), type := 0, pos := "ref.go:33", after := #[⟨8, .data⟩, ⟨4, .data⟩, ⟨7, .chain⟩, ⟨0, .phase⟩, ⟨1, .phase⟩, ⟨2, .phase⟩, ⟨3, .phase⟩, ⟨4, .phase⟩, ⟨5, .phase⟩, ⟨6, .phase⟩, ⟨7, .phase⟩, { on := 12, ground := Ground.gcOnly Departure.appendInPlace }], guard := none }) rfl (fun KK hKK => ?_) (AllReadyH.cons (o := { dst := none, op := Op.store 24 (Operand.tmp 73) (Operand.tmp 70), type := 0, pos := "ref.go:33", after := #[⟨11, .data⟩, ⟨7, .data⟩, ⟨7, .chain⟩, { on := 9, ground := Ground.textOnly Departure.appendInPlace }, ⟨0, .phase⟩, ⟨1, .phase⟩, ⟨2, .phase⟩, ⟨3, .phase⟩, ⟨4, .phase⟩, ⟨5, .phase⟩, ⟨6, .phase⟩, ⟨7, .phase⟩, { on := 8, ground := Ground.textOnly Departure.appendInPlace }, { on := 9, ground := Ground.textOnly Departure.appendInPlace }], guard := none }) rfl (fun KK hKK => ?_) AllReadyH.nil)
            · go_simp
              have d0A : ((((((w3.setCell ⟨gn, n * 6, none⟩ (.int .i64 p.kind)).setCell ⟨gn, n * 6 + 1, none⟩ (.string (BA p.text))).setCell ⟨gn, n * 6 + 2, none⟩ (.bool p.quote)).setCell ⟨gn, n * 6 + 3, none⟩ (.int .i64 p.op)).setCell ⟨gn, n * 6 + 4, none⟩ (.bool p.colon)).setCell ⟨gn, n * 6 + 5, none⟩ (.slice va vn vc)).cell? ⟨b, 0, none⟩ = some (.slice (some ⟨g, 0, none⟩) n cap) := Blk.cell (show Blk (T6 w3 gn (n * 6) (.int .i64 p.kind) (.string (BA p.text)) (.bool p.quote) (.int .i64 p.op) (.bool p.colon) (.slice va vn vc)) b 59 _ from (unhide HM).blk.grownS (T6_grown ..) (unhide HM).bg) 0 rfl
              have z0A : ((((((w3.setCell ⟨gn, n * 6, none⟩ (.int .i64 p.kind)).setCell ⟨gn, n * 6 + 1, none⟩ (.string (BA p.text))).setCell ⟨gn, n * 6 + 2, none⟩ (.bool p.quote)).setCell ⟨gn, n * 6 + 3, none⟩ (.int .i64 p.op)).setCell ⟨gn, n * 6 + 4, none⟩ (.bool p.colon)).setCell ⟨gn, n * 6 + 5, none⟩ (.slice va vn vc)).frozen? ⟨b, 0, none⟩ = false := Blk.frozen (show Blk (T6 w3 gn (n * 6) (.int .i64 p.kind) (.string (BA p.text)) (.bool p.quote) (.int .i64 p.op) (.bool p.colon) (.slice va vn vc)) b 59 _ from (unhide HM).blk.grownS (T6_grown ..) (unhide HM).bg) 0
              refine hKK.out _ _ (by exact show Box (T6 w3 gn (n * 6) (.int .i64 p.kind) (.string (BA p.text)) (.bool p.quote) (.int .i64 p.op) (.bool p.colon) (.slice va vn vc)) w.heap.size p (.slice va vn vc) from Blk.grownS (unhide HM).box (T6_grown ..) (unhide HM).qg) (fun hHeld => ?_)
              clear hKK KK
              try simp only [Act.put, List.setIfInBounds_toArray, List.set_cons_zero, List.set_cons_succ]
              refine wpAnyH_ready (rs := [12]) (by kernel_rfl) (by simp) ?_
              refine AllReadyH.cons (o := { dst := none, op := Op.store 24 (Operand.tmp 73) (Operand.tmp 70), type := 0, pos := "ref.go:33", after := #[⟨11, .data⟩, ⟨7, .data⟩, ⟨7, .chain⟩, { on := 9, ground := Ground.textOnly Departure.appendInPlace }, ⟨0, .phase⟩, ⟨1, .phase⟩, ⟨2, .phase⟩, ⟨3, .phase⟩, ⟨4, .phase⟩, ⟨5, .phase⟩, ⟨6, .phase⟩, ⟨7, .phase⟩, { on := 8, ground := Ground.textOnly Departure.appendInPlace }, { on := 9, ground := Ground.textOnly Departure.appendInPlace }], guard := none }) rfl (fun KK hKK => ?_) AllReadyH.nil
              go_simp
              refine hKK.out _ _ (by exact show Box ((T6 w3 gn (n * 6) (.int .i64 p.kind) (.string (BA p.text)) (.bool p.quote) (.int .i64 p.op) (.bool p.colon) (.slice va vn vc)).setCell ⟨b, 0, none⟩ (.slice (some ⟨gn, 0, none⟩) (n + 1) cg)) w.heap.size p (.slice va vn vc) from Blk.grownS (Blk.grownS (unhide HM).box (T6_grown ..) (unhide HM).qg) (setb_grown _ _ _ _) (unhide HM).qb) (fun hHeld => ?_)
              clear hKK KK
              try simp only [Act.put, List.setIfInBounds_toArray, List.set_cons_zero, List.set_cons_succ]
              clear hHeld
              refine wpAnyH_done (by kernel_rfl) ?_ _
              obtain ⟨w5, hw5⟩ : ∃ x, x = (((((((w3.setCell ⟨gn, n * 6, none⟩ (.int .i64 p.kind)).setCell ⟨gn, n * 6 + 1, none⟩ (.string (BA p.text))).setCell ⟨gn, n * 6 + 2, none⟩ (.bool p.quote)).setCell ⟨gn, n * 6 + 3, none⟩ (.int .i64 p.op)).setCell ⟨gn, n * 6 + 4, none⟩ (.bool p.colon)).setCell ⟨gn, n * 6 + 5, none⟩ (.slice va vn vc)).setCell ⟨b, 0, none⟩ (.slice (some ⟨gn, 0, none⟩) (n + 1) cg)) := ⟨_, rfl⟩
              have H5 : Hid (RAdds w b X (ps ++ [p]) er w5) := hide (by rw [hw5]; exact RAdds.trans (unhide HG2) (fun _ h => .inl h) ⟨_, ⟨_, _, (radd_finA (unhide HM) (unhide H2) (unhide HN) (unhide HO3) (unhide HSUB) (unhide HIN)).1, by rw [List.map_append, unhide HPS]; rfl⟩, (radd_finA (unhide HM) (unhide H2) (unhide HN) (unhide HO3) (unhide HSUB) (unhide HIN)).2, rmid_x (unhide HM) (unhide H2)⟩)
              rw [← hw5]
              go_wp2
              first | refine bodyPost_end (res0 rfl _ _) rfl ?_ | refine bodyPost_ret (res0 rfl _ _) rfl ?_
              exact ⟨rfl, by rw [unhide HNO]; exact unhide H5⟩
            · go_simp
              have HOB : Hid (World.ownsRow (w3.setCell ⟨b, 0, none⟩ (.slice (some ⟨gn, 0, none⟩) (n + 1) cg)) (b + 1) 37 6 (.slice (some ⟨gn, 0, none⟩) (n + 1) cg) (n + 1) (flatP L2 ++ [.int .i64 0, .string ⟨#[]⟩, .bool false, .int .i64 0, .bool false, .slice none 0 0])) := hide (own_grownS (unhide HO3) (setb_grown _ _ _ _) (fun k hk e => (unhide HM).bg ((ownb hk).trans e).symm))
              have t0 := own_cell (j := n * 6) (unhide HOB) (zero_at (unhide HN) 0)
              have t1 := own_cell (j := n * 6 + 1) (unhide HOB) (zero_at (unhide HN) 1)
              have t2 := own_cell (j := n * 6 + 2) (unhide HOB) (zero_at (unhide HN) 2)
              have t3 := own_cell (j := n * 6 + 3) (unhide HOB) (zero_at (unhide HN) 3)
              have t4 := own_cell (j := n * 6 + 4) (unhide HOB) (zero_at (unhide HN) 4)
              have t5 := own_cell (j := n * 6 + 5) (unhide HOB) (zero_at (unhide HN) 5)
              obtain ⟨t0a, t0b⟩ := t0
              obtain ⟨t1a, t1b⟩ := t1
              obtain ⟨t2a, t2b⟩ := t2
              obtain ⟨t3a, t3b⟩ := t3
              obtain ⟨t4a, t4b⟩ := t4
              obtain ⟨t5a, t5b⟩ := t5
              refine hKK.out _ _ (by exact Blk.grownS (unhide HM).box (setb_grown _ _ _ _) (unhide HM).qb) (fun hHeld => ?_)
              clear hKK KK
              try simp only [Act.put, List.setIfInBounds_toArray, List.set_cons_zero, List.set_cons_succ]
              refine wpAnyH_ready (rs := [9]) (by kernel_rfl) (by simp) ?_
              refine AllReadyH.cons (o := { dst := none, op := Op.store 37 (Operand.tmp 71) (Operand.tmp 67), type := 0, pos := "ref.go:33", after := #[⟨8, .data⟩, ⟨4, .data⟩, ⟨7, .chain⟩, ⟨0, .phase⟩, ⟨1, .phase⟩, ⟨2, .phase⟩, ⟨3, .phase⟩, ⟨4, .phase⟩, ⟨5, .phase⟩, ⟨6, .phase⟩, ⟨7, .phase⟩, { on := 12, ground := Ground.gcOnly Departure.appendInPlace }], guard := none }) rfl (fun KK hKK => ?_) AllReadyH.nil
              go_simp
              refine hKK.out _ _ (by exact show Box (T6 (w3.setCell ⟨b, 0, none⟩ (.slice (some ⟨gn, 0, none⟩) (n + 1) cg)) gn (n * 6) (.int .i64 p.kind) (.string (BA p.text)) (.bool p.quote) (.int .i64 p.op) (.bool p.colon) (.slice va vn vc)) w.heap.size p (.slice va vn vc) from Blk.grownS (Blk.grownS (unhide HM).box (setb_grown _ _ _ _) (unhide HM).qb) (T6_grown ..) (unhide HM).qg) (fun hHeld => ?_)
              clear hKK KK
              try simp only [Act.put, List.setIfInBounds_toArray, List.set_cons_zero, List.set_cons_succ]
              clear hHeld
              refine wpAnyH_done (by kernel_rfl) ?_ _
              obtain ⟨w5, hw5⟩ : ∃ x, x = (((((((w3.setCell ⟨b, 0, none⟩ (.slice (some ⟨gn, 0, none⟩) (n + 1) cg)).setCell ⟨gn, n * 6, none⟩ (.int .i64 p.kind)).setCell ⟨gn, n * 6 + 1, none⟩ (.string (BA p.text))).setCell ⟨gn, n * 6 + 2, none⟩ (.bool p.quote)).setCell ⟨gn, n * 6 + 3, none⟩ (.int .i64 p.op)).setCell ⟨gn, n * 6 + 4, none⟩ (.bool p.colon)).setCell ⟨gn, n * 6 + 5, none⟩ (.slice va vn vc)) := ⟨_, rfl⟩
              have H5 : Hid (RAdds w b X (ps ++ [p]) er w5) := hide (by rw [hw5]; exact RAdds.trans (unhide HG2) (fun _ h => .inl h) ⟨_, ⟨_, _, (radd_finB (unhide HM) (unhide H2) (unhide HN) (unhide HO3) (unhide HSUB) (unhide HIN)).1, by rw [List.map_append, unhide HPS]; rfl⟩, (radd_finB (unhide HM) (unhide H2) (unhide HN) (unhide HO3) (unhide HSUB) (unhide HIN)).2, rmid_x (unhide HM) (unhide H2)⟩)
              rw [← hw5]
              go_wp2
              first | refine bodyPost_end (res0 rfl _ _) rfl ?_ | refine bodyPost_ret (res0 rfl _ _) rfl ?_
              exact ⟨rfl, by rw [unhide HNO]; exact unhide H5⟩
        | true =>
          have hyq1 : yq = p.quote := eq_of_beq hyq
          have HADD : Hid (addP ps p = M.map Prod.fst ++ [.mk yk (yt ++ p.text) yq yo yc ys]) := hide (by
            rw [← hps, hL, List.map_append]
            show addP (M.map Prod.fst ++ [.mk yk yt yq yo yc ys]) p = _
            rw [addP_snoc, if_pos ⟨hyk1, hkp, hyq1⟩])
          have HEN : Hid (∀ W, Below w.heap.size w W → W.cell? ⟨g, m * 6 + 1, none⟩ = some (.string (BA yt)) ∧ W.frozen? ⟨g, m * 6 + 1, none⟩ = false ∧ RAdds w b X (addP ps p) er (W.setCell ⟨g, m * 6 + 1, none⟩ (.string (BA (yt ++ p.text))))) := hide (fun W hW => by
            have hh := h.below hW
            rw [hL] at hh
            have hr2 := hh.row
            rw [← hL, hn] at hr2
            have hmore := hh.more (t' := yt ++ p.text) (by omega)
            rw [← hm] at hmore
            refine ⟨(hW.cell (p := ⟨g, _, none⟩) hgl).trans (hcell 1 _ rfl (by omega)), (own_cell hr2 (j := m * 6 + 1) (u := .string (BA yt)) (by rw [hL]; exact flatP_get (M ++ [(.mk yk yt yq yo yc ys, yv)]) m 1 (.mk yk yt yq yo yc ys, yv) (by rw [hm]; simp) (by omega))).2, ?_⟩
            exact RAdds.trans (grownS_of_below hW) (fun _ h => .inl h) ⟨X, ⟨_, _, hmore.1, by rw [unhide HADD, List.map_append]; rfl⟩, hmore.2, fun _ h => .inl h⟩)
          have hytl : yt.length ≤ 1000000 := by
            rw [← hps, hL, List.map_append, tlen_app] at ht
            have : tlen ([((.mk yk yt yq yo yc ys, yv) : Prt × Value)].map Prod.fst) = yt.length := by show [yt.length].sum = _; simp
            omega
          have hptl : p.text.length ≤ 1000000 := by omega
          have HGN0 : Hid (b ≠ g ∧ w.heap.size ≠ g) := hide ⟨fun e => own_type h.row h.blk (by decide) (by rw [e]; rfl), by omega⟩
          have hcat : BA yt ++ BA p.text = BA (yt ++ p.text) := rfl
          clear h hn hps ht hL hkp hr hcell hnm hm hyk1 hyq1
          go_enter Tryz.func28, Tryz.ntmps28
          go_wp2_with fail
          go_quiet (fail)
          go_wp2_with fail
          obtain ⟨w2, hw2⟩ : ∃ x, x = (w.alloc (.cells #[.int .i64 p.kind, .string (BA p.text), .bool p.quote, .int .i64 p.op, .bool p.colon, .slice va vn vc] 37)).drewN nq := ⟨_, rfl⟩
          have HB2 : Hid (Below w.heap.size w w2) := hide (by rw [hw2]; exact ((Below.refl _ w).alloc (Nat.le_refl _) _).trans ((below_drew _ _).mono (by simp)))
          have HBX : Hid (Box w2 w.heap.size p (.slice va vn vc)) := hide (by rw [hw2]; exact Blk.new w _ _)
          rw [← hw2]
          have hbw : b < w2.heap.size := by have h1 := (unhide HB2).size; have h2 := unhide HBL0; omega
          have HG2 : Hid (GrownS w w2 X) := hide (grownS_of_below (unhide HB2))
          clear hw2
          obtain ⟨e7, y7, hE7⟩ := unhide HEN w2 (unhide HB2)
          have HEND := hide hE7
          have c0 : w2.cell? ⟨b, 0, none⟩ = some (.slice (some ⟨g, 0, none⟩) n cap) := ((unhide H0).below (unhide HB2)).blk.cell 0 rfl
          have HBL : Hid (b < w2.heap.size) := hide hbw
          have HQL : Hid (w.heap.size < w2.heap.size) := hide (Blk.lt (unhide HBX))
          have HGN : Hid (b ≠ g ∧ w.heap.size ≠ g) := HGN0
          have HS2 : Hid (w2.cell? ⟨b, 0, none⟩ = some (.slice (some ⟨g, 0, none⟩) n cap) ∧ w2.cell? ⟨w.heap.size, 1, none⟩ = some (.string (BA p.text))) := hide ⟨c0, (unhide HBX).six.2.1⟩
          clear hE7
          refine wp_region_held_drew (S := fun w' => w'.cell? ⟨b, 0, none⟩ = some (.slice (some ⟨g, 0, none⟩) n cap) ∧ w'.cell? ⟨w.heap.size, 1, none⟩ = some (.string (BA p.text))) (by kernel_rfl) (by exact unhide HS2) (fun hHeld => ?_)
          refine wpAnyH_take (i := 0) (oi := { dst := some 43, op := Op.move (Operand.tmp 0), type := 57, pos := "ref.go:30", after := #[], guard := none }) (v := ?_) rfl (by kernel_rfl) (by kernel_rfl) (by kernel_rfl) (fun _ _ _ h => h) (Or.inl ⟨by rfl, ?_⟩) (by assumption) ?_
          rotate_left
          · intro w hSw; obtain ⟨s0, s1⟩ := hSw; go_simp; (try rw [if_neg (by omega)]); (try with_reducible rfl)
          simp only [Act.put, List.setIfInBounds_toArray, List.set_cons_zero, List.set_cons_succ]
          refine wpAnyH_take (i := 1) (oi := { dst := some 44, op := Op.nilCheck (Operand.tmp 43), type := 0, pos := "ref.go:30", after := #[⟨0, .data⟩], guard := none }) (v := ?_) rfl (by kernel_rfl) (by kernel_rfl) (by kernel_rfl) (fun _ _ _ h => h) (Or.inl ⟨by rfl, ?_⟩) (by assumption) ?_
          rotate_left
          · intro w hSw; obtain ⟨s0, s1⟩ := hSw; go_simp; (try rw [if_neg (by omega)]); (try with_reducible rfl)
          simp only [Act.put, List.setIfInBounds_toArray, List.set_cons_zero, List.set_cons_succ]
          refine wpAnyH_take (i := 2) (oi := { dst := some 45, op := Op.fieldAddr 59 (Operand.tmp 44) 0, type := 0, pos := "ref.go:30", after := #[⟨1, .data⟩], guard := none }) (v := ?_) rfl (by kernel_rfl) (by kernel_rfl) (by kernel_rfl) (fun _ _ _ h => h) (Or.inl ⟨by rfl, ?_⟩) (by assumption) ?_
          rotate_left
          · intro w hSw; obtain ⟨s0, s1⟩ := hSw; go_simp; (try rw [if_neg (by omega)]); (try with_reducible rfl)
          simp only [Act.put, List.setIfInBounds_toArray, List.set_cons_zero, List.set_cons_succ]
          refine wpAnyH_take (i := 3) (oi := { dst := some 46, op := Op.load 24 (Operand.tmp 45), type := 24, pos := "ref.go:30", after := #[⟨2, .data⟩], guard := none }) (v := ?_) rfl (by kernel_rfl) (by kernel_rfl) (by kernel_rfl) (fun _ _ _ h => h) (Or.inl ⟨by rfl, ?_⟩) (by assumption) ?_
          rotate_left
          · intro w hSw; obtain ⟨s0, s1⟩ := hSw; go_simp; (try rw [if_neg (by omega)]); (try with_reducible rfl)
          simp only [Act.put, List.setIfInBounds_toArray, List.set_cons_zero, List.set_cons_succ]
          refine wpAnyH_take (i := 4) (oi := { dst := some 47, op := Op.move (Operand.tmp 4), type := 3, pos := "ref.go:30", after := #[], guard := none }) (v := ?_) rfl (by kernel_rfl) (by kernel_rfl) (by kernel_rfl) (fun _ _ _ h => h) (Or.inl ⟨by rfl, ?_⟩) (by assumption) ?_
          rotate_left
          · intro w hSw; obtain ⟨s0, s1⟩ := hSw; go_simp; (try rw [if_neg (by omega)]); (try with_reducible rfl)
          simp only [Act.put, List.setIfInBounds_toArray, List.set_cons_zero, List.set_cons_succ]
          refine wpAnyH_take (i := 5) (oi := { dst := some 48, op := Op.binOp BinOp.sub 3 (Operand.tmp 47) (Operand.const (Value.int IntKind.i64 1)) 3, type := 3, pos := "ref.go:30", after := #[⟨4, .data⟩], guard := none }) (v := ?_) rfl (by kernel_rfl) (by kernel_rfl) (by kernel_rfl) (fun _ _ _ h => h) (Or.inl ⟨by rfl, ?_⟩) (by assumption) ?_
          rotate_left
          · intro w hSw; obtain ⟨s0, s1⟩ := hSw; go_simp; (try rw [if_neg (by omega)]); (try with_reducible rfl)
          simp only [Act.put, List.setIfInBounds_toArray, List.set_cons_zero, List.set_cons_succ]
          refine wpAnyH_take (i := 6) (oi := { dst := some 49, op := Op.move (Operand.tmp 0), type := 57, pos := "ref.go:30", after := #[], guard := none }) (v := ?_) rfl (by kernel_rfl) (by kernel_rfl) (by kernel_rfl) (fun _ _ _ h => h) (Or.inl ⟨by rfl, ?_⟩) (by assumption) ?_
          rotate_left
          · intro w hSw; obtain ⟨s0, s1⟩ := hSw; go_simp; (try rw [if_neg (by omega)]); (try with_reducible rfl)
          simp only [Act.put, List.setIfInBounds_toArray, List.set_cons_zero, List.set_cons_succ]
          refine wpAnyH_take (i := 7) (oi := { dst := some 50, op := Op.nilCheck (Operand.tmp 49), type := 0, pos := "ref.go:30", after := #[⟨6, .data⟩], guard := none }) (v := ?_) rfl (by kernel_rfl) (by kernel_rfl) (by kernel_rfl) (fun _ _ _ h => h) (Or.inl ⟨by rfl, ?_⟩) (by assumption) ?_
          rotate_left
          · intro w hSw; obtain ⟨s0, s1⟩ := hSw; go_simp; (try rw [if_neg (by omega)]); (try with_reducible rfl)
          simp only [Act.put, List.setIfInBounds_toArray, List.set_cons_zero, List.set_cons_succ]
          refine wpAnyH_take (i := 8) (oi := { dst := some 51, op := Op.fieldAddr 59 (Operand.tmp 50) 0, type := 0, pos := "ref.go:30", after := #[⟨7, .data⟩], guard := none }) (v := ?_) rfl (by kernel_rfl) (by kernel_rfl) (by kernel_rfl) (fun _ _ _ h => h) (Or.inl ⟨by rfl, ?_⟩) (by assumption) ?_
          rotate_left
          · intro w hSw; obtain ⟨s0, s1⟩ := hSw; go_simp; (try rw [if_neg (by omega)]); (try with_reducible rfl)
          simp only [Act.put, List.setIfInBounds_toArray, List.set_cons_zero, List.set_cons_succ]
          refine wpAnyH_take (i := 9) (oi := { dst := some 52, op := Op.load 24 (Operand.tmp 51), type := 24, pos := "ref.go:30", after := #[⟨8, .data⟩], guard := none }) (v := ?_) rfl (by kernel_rfl) (by kernel_rfl) (by kernel_rfl) (fun _ _ _ h => h) (Or.inl ⟨by rfl, ?_⟩) (by assumption) ?_
          rotate_left
          · intro w hSw; obtain ⟨s0, s1⟩ := hSw; go_simp; (try rw [if_neg (by omega)]); (try with_reducible rfl)
          simp only [Act.put, List.setIfInBounds_toArray, List.set_cons_zero, List.set_cons_succ]
          refine wpAnyH_take (i := 10) (oi := { dst := some 53, op := Op.move (Operand.tmp 4), type := 3, pos := "ref.go:30", after := #[], guard := none }) (v := ?_) rfl (by kernel_rfl) (by kernel_rfl) (by kernel_rfl) (fun _ _ _ h => h) (Or.inl ⟨by rfl, ?_⟩) (by assumption) ?_
          rotate_left
          · intro w hSw; obtain ⟨s0, s1⟩ := hSw; go_simp; (try rw [if_neg (by omega)]); (try with_reducible rfl)
          simp only [Act.put, List.setIfInBounds_toArray, List.set_cons_zero, List.set_cons_succ]
          refine wpAnyH_take (i := 11) (oi := { dst := some 54, op := Op.binOp BinOp.sub 3 (Operand.tmp 53) (Operand.const (Value.int IntKind.i64 1)) 3, type := 3, pos := "ref.go:30", after := #[⟨10, .data⟩], guard := none }) (v := ?_) rfl (by kernel_rfl) (by kernel_rfl) (by kernel_rfl) (fun _ _ _ h => h) (Or.inl ⟨by rfl, ?_⟩) (by assumption) ?_
          rotate_left
          · intro w hSw; obtain ⟨s0, s1⟩ := hSw; go_simp; (try rw [if_neg (by omega)]); (try with_reducible rfl)
          simp only [Act.put, List.setIfInBounds_toArray, List.set_cons_zero, List.set_cons_succ]
          refine wpAnyH_take (i := 12) (oi := { dst := some 55, op := Op.indexAddr 24 (Operand.tmp 52) (Operand.tmp 54), type := 0, pos := "ref.go:30", after := #[⟨9, .data⟩, ⟨11, .data⟩], guard := none }) (v := ?_) rfl (by kernel_rfl) (by kernel_rfl) (by kernel_rfl) (fun _ _ _ h => h) (Or.inl ⟨by rfl, ?_⟩) (by assumption) ?_
          rotate_left
          · intro w hSw; obtain ⟨s0, s1⟩ := hSw; go_simp; (try rw [if_neg (by omega)]); (try with_reducible rfl)
          simp only [Act.put, List.setIfInBounds_toArray, List.set_cons_zero, List.set_cons_succ]
          refine wpAnyH_take (i := 13) (oi := { dst := some 56, op := Op.fieldAddr 37 (Operand.tmp 55) 1, type := 0, pos := "ref.go:30", after := #[⟨12, .data⟩], guard := none }) (v := ?_) rfl (by kernel_rfl) (by kernel_rfl) (by kernel_rfl) (fun _ _ _ h => h) (Or.inl ⟨by rfl, ?_⟩) (by assumption) ?_
          rotate_left
          · intro w hSw; obtain ⟨s0, s1⟩ := hSw; go_simp; (try rw [if_neg (by omega)]); (try with_reducible rfl)
          simp only [Act.put, List.setIfInBounds_toArray, List.set_cons_zero, List.set_cons_succ]
          refine wpAnyH_take (i := 15) (oi := { dst := some 58, op := Op.fieldAddr 37 (Operand.tmp 3) 1, type := 0, pos := "ref.go:30", after := #[], guard := none }) (v := ?_) rfl (by kernel_rfl) (by kernel_rfl) (by kernel_rfl) (fun _ _ _ h => h) (Or.inl ⟨by rfl, ?_⟩) (by assumption) ?_
          rotate_left
          · intro w hSw; obtain ⟨s0, s1⟩ := hSw; go_simp; (try rw [if_neg (by omega)]); (try with_reducible rfl)
          simp only [Act.put, List.setIfInBounds_toArray, List.set_cons_zero, List.set_cons_succ]
          refine wpAnyH_take (i := 16) (oi := { dst := some 59, op := Op.load 9 (Operand.tmp 58), type := 9, pos := "ref.go:30", after := #[⟨15, .data⟩], guard := none }) (v := ?_) rfl (by kernel_rfl) (by kernel_rfl) (by kernel_rfl) (fun _ _ _ h => h) (Or.inl ⟨by rfl, ?_⟩) (by assumption) ?_
          rotate_left
          · intro w hSw; obtain ⟨s0, s1⟩ := hSw; go_simp; (try rw [if_neg (by omega)]); (try with_reducible rfl)
          simp only [Act.put, List.setIfInBounds_toArray, List.set_cons_zero, List.set_cons_succ]
          refine wpAnyH_ready (rs := [14]) (by kernel_rfl) (by simp) ?_
          refine AllReadyH.cons (o := { dst := some 57, op := Op.load 9 (Operand.tmp 56), type := 9, pos := "ref.go:30", after := #[⟨13, .data⟩], guard := none }) rfl (fun KK hKK => ?_) AllReadyH.nil
          go_simp
          refine hKK.out _ _ (by exact unhide HS2) (fun hHeld => ?_)
          clear hKK KK
          try simp only [Act.put, List.setIfInBounds_toArray, List.set_cons_zero, List.set_cons_succ]
          refine wpAnyH_take (i := 17) (oi := { dst := some 60, op := Op.binOp BinOp.add 9 (Operand.tmp 57) (Operand.tmp 59) 9, type := 9, pos := "ref.go:30", after := #[⟨14, .data⟩, ⟨16, .data⟩], guard := none }) (v := ?_) rfl (by kernel_rfl) (by kernel_rfl) (by kernel_rfl) (fun _ _ _ h => h) (Or.inl ⟨by rfl, ?_⟩) (by assumption) ?_
          rotate_left
          · intro w hSw; obtain ⟨s0, s1⟩ := hSw; go_simp; (try rw [if_neg (by omega)]); (try with_reducible rfl)
          simp only [Act.put, List.setIfInBounds_toArray, List.set_cons_zero, List.set_cons_succ]
          refine wpAnyH_take (i := 18) (oi := { dst := some 61, op := Op.indexAddr 24 (Operand.tmp 46) (Operand.tmp 48), type := 0, pos := "ref.go:30", after := #[⟨3, .data⟩, ⟨5, .data⟩, ⟨0, .phase⟩, ⟨1, .phase⟩, ⟨2, .phase⟩, ⟨3, .phase⟩, ⟨4, .phase⟩, ⟨5, .phase⟩, ⟨6, .phase⟩, ⟨7, .phase⟩, ⟨8, .phase⟩, ⟨9, .phase⟩, ⟨10, .phase⟩, ⟨11, .phase⟩, ⟨12, .phase⟩, ⟨13, .phase⟩, ⟨14, .phase⟩, ⟨15, .phase⟩, ⟨16, .phase⟩, ⟨17, .phase⟩], guard := none }) (v := ?_) rfl (by kernel_rfl) (by kernel_rfl) (by kernel_rfl) (fun _ _ _ h => h) (Or.inl ⟨by rfl, ?_⟩) (by assumption) ?_
          rotate_left
          · intro w hSw; obtain ⟨s0, s1⟩ := hSw; go_simp; (try rw [if_neg (by omega)]); (try with_reducible rfl)
          simp only [Act.put, List.setIfInBounds_toArray, List.set_cons_zero, List.set_cons_succ]
          refine wpAnyH_take (i := 19) (oi := { dst := some 62, op := Op.fieldAddr 37 (Operand.tmp 61) 1, type := 0, pos := "ref.go:30", after := #[⟨18, .data⟩, ⟨0, .phase⟩, ⟨1, .phase⟩, ⟨2, .phase⟩, ⟨3, .phase⟩, ⟨4, .phase⟩, ⟨5, .phase⟩, ⟨6, .phase⟩, ⟨7, .phase⟩, ⟨8, .phase⟩, ⟨9, .phase⟩, ⟨10, .phase⟩, ⟨11, .phase⟩, ⟨12, .phase⟩, ⟨13, .phase⟩, ⟨14, .phase⟩, ⟨15, .phase⟩, ⟨16, .phase⟩, ⟨17, .phase⟩], guard := none }) (v := ?_) rfl (by kernel_rfl) (by kernel_rfl) (by kernel_rfl) (fun _ _ _ h => h) (Or.inl ⟨by rfl, ?_⟩) (by assumption) ?_
          rotate_left
          · intro w hSw; obtain ⟨s0, s1⟩ := hSw; go_simp; (try rw [if_neg (by omega)]); (try with_reducible rfl)
          simp only [Act.put, List.setIfInBounds_toArray, List.set_cons_zero, List.set_cons_succ]
          refine wpAnyH_ready (rs := [20]) (by kernel_rfl) (by simp) ?_
          refine AllReadyH.cons (o := { dst := none, op := Op.store 9 (Operand.tmp 62) (Operand.tmp 60), type := 0, pos := "ref.go:30", after := #[⟨19, .data⟩, ⟨17, .data⟩, ⟨0, .phase⟩, ⟨1, .phase⟩, ⟨2, .phase⟩, ⟨3, .phase⟩, ⟨4, .phase⟩, ⟨5, .phase⟩, ⟨6, .phase⟩, ⟨7, .phase⟩, ⟨8, .phase⟩, ⟨9, .phase⟩, ⟨10, .phase⟩, ⟨11, .phase⟩, ⟨12, .phase⟩, ⟨13, .phase⟩, ⟨14, .phase⟩, ⟨15, .phase⟩, ⟨16, .phase⟩, ⟨17, .phase⟩], guard := none }) rfl (fun KK hKK => ?_) AllReadyH.nil
          go_simp
          have HS7 : Hid ((w2.setCell ⟨g, m * 6 + 1, none⟩ (.string (BA (yt ++ p.text)))).cell? ⟨b, 0, none⟩ = some (.slice (some ⟨g, 0, none⟩) n cap) ∧ (w2.setCell ⟨g, m * 6 + 1, none⟩ (.string (BA (yt ++ p.text)))).cell? ⟨w.heap.size, 1, none⟩ = some (.string (BA p.text))) := hide ⟨by rw [World.cell?_of_block (w := w2) ((setb_grown w2 g (m * 6 + 1) _).block b (unhide HBL) (unhide HGN).1)]; exact c0, by rw [World.cell?_of_block (w := w2) ((setb_grown w2 g (m * 6 + 1) _).block w.heap.size (unhide HQL) (unhide HGN).2)]; exact (unhide HBX).six.2.1⟩
          refine hKK.out _ _ (by exact unhide HS7) (fun hHeld => ?_)
          clear hKK KK
          try simp only [Act.put, List.setIfInBounds_toArray, List.set_cons_zero, List.set_cons_succ]
          clear hHeld
          refine wpAnyH_done (by kernel_rfl) ?_ _
          obtain ⟨w5, hw5⟩ : ∃ x, x = (w2.setCell ⟨g, m * 6 + 1, none⟩ (.string (BA (yt ++ p.text)))) := ⟨_, rfl⟩
          have H5 : Hid (RAdds w b X (addP ps p) er w5) := hide (by rw [hw5]; exact unhide HEND)
          rw [← hw5]
          clear hw5 HS7
          go_wp2
          first | refine bodyPost_end (res0 rfl _ _) rfl ?_ | refine bodyPost_ret (res0 rfl _ _) rfl ?_
          exact ⟨rfl, (unhide H5).below (below_drew _ 1)⟩
theorem rlit_any (w : World) (b : Nat) (X : Nat → Prop) (ps : List Prt) (er : Int) (t : ByteArray) (q : Bool) (h : RWt w b X ps er) (hl : ps.length ≤ 100000) (ht : tlen ps + t.size ≤ 1000000) :
    Calls Tryz.prog 48 #[.pointer (some ⟨b, 0, none⟩), .string t, .bool q] w fun e w' => e = .returned (.tuple #[]) ∧ RAdds w b X (addP ps (litP t.data.toList q)) er w' := by
  have HA : Hid (Calls Tryz.prog 28 #[.pointer (some ⟨b, 0, none⟩), .agg #[.int .i64 1, .string t, .bool q, .int .i64 0, .bool false, .slice none 0 0]] w fun e w' => e = .returned (.tuple #[]) ∧ RAdds w b X (addP ps (litP t.data.toList q)) er w') := hide (radd_any w b X (fun _ => False) ps er _ (litP t.data.toList q) h ⟨_, rfl, wat_nil _ _ _ _⟩ (fun _ e => e.elim) hl (by show tlen ps + t.data.toList.length ≤ _; rw [data_len]; exact ht))
  clear h
  go_enter Tryz.func48, Tryz.ntmps48
  go_wp2_with fail
  refine (unhide HA).mono ?_
  rintro e w1 ⟨rfl, hR⟩
  have HR := hide hR
  clear hR
  go_wp2
  first | refine bodyPost_end (res0 rfl _ _) rfl ?_ | refine bodyPost_ret (res0 rfl _ _) rfl ?_
  exact ⟨rfl, unhide HR⟩
end Go.Proofs.YtnamfjbfcbamjaaGreatDoor

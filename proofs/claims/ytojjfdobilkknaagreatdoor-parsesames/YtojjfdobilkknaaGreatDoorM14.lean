/- What a part more turns in the list of package word.; Short words for the steps of a region that draws.; A part more: package word's (*list).add. -/
import Derived.Test.YtojjfdobilkknaaGreatDoorM13
import Derived.Test.YtojjfdobilkknaaGreatDoorM01
import Derived.Deep.RegionHeld3
import Derived.Maps.RangeWalk
set_option maxRecDepth 100000
set_option maxHeartbeats 40000000
namespace Go.Proofs.YtojjfdobilkknaaGreatDoor
open Go.RowKit
def LSt (w : World) (b : Nat) (X : Nat → Prop) (ps : List Prt) : Prop :=
 ∃ L bs pv bv, LSg w b X L bs pv bv ∧ (setL L bs).map Prod.fst = ps ∧ (litB L = false → bs = [])
theorem LSt.below {w w1 : World} {b : Nat} {X : Nat → Prop} {ps : List Prt} (h : LSt w b X ps) (hb : Below w.heap.size w w1) : LSt w1 b X ps := by
 obtain ⟨L, bs, pv, bv, h1, h2⟩ := h
 exact ⟨L, bs, pv, bv, h1.below hb, h2⟩
theorem slice_own {w : World} {base e n sz : Nat} {v : Value} {xs : List Value} (h : w.ownsRow base e sz v n xs) : ∃ a m c, v = .slice a m c := by
 obtain ⟨_, ⟨hv, _⟩ | ⟨g, cap, cur, hv, _⟩⟩ := h
 ·exact ⟨_, _, _, hv⟩
 ·exact ⟨_, _, _, hv⟩
theorem sbg (w : World) (b j : Nat) (v : Value) : GrownS w (w.setCell ⟨b, j, none⟩ v) (fun k => k = b) := GrownS.of (gsc w ⟨b, j, none⟩ v) (fun k e => by simpa using e)
theorem zero_at {L : List (Prt × Value)} {n : Nat} {z0 z1 z2 z3 z4 z5 : Value} (hn : L.length = n) (j : Nat) : (flatP L ++ [z0, z1, z2, z3, z4, z5])[n * 6 + j]? = [z0, z1, z2, z3, z4, z5][j]? := by
 rw [List.getElem?_append_right (by rw [flatP_len]; omega), flatP_len, hn, Nat.add_sub_cancel_left]
theorem setL_len (L : List (Prt × Value)) (bs : List UInt8) : (setL L bs).length = L.length := by
 unfold setL
 split
 ·rfl
 ·next x hx =>
  split
  ·rw [List.length_append, List.length_dropLast]
   have : L ≠ [] := by intro e; rw [e] at hx; cases hx
   have := List.length_pos_iff.2 this
   simp
   omega
  ·rfl
theorem blk_drew {w : World} {b : Nat} {t : TypeId} {cs : Array Value} (h : Blk w b t cs) : Blk w.drew b t cs := h
theorem blk_set0 {w : World} {b : Nat} {t : TypeId} {x y : Value} (h : Blk w b t #[x, y]) (v : Value) : Blk (w.setCell ⟨b, 0, none⟩ v) b t #[v, y] := by
 have := h.set 0 v
 simpa using this
theorem ownb {g n c k : Nat} (h : Value.ownBlock (.slice (some ⟨g, 0, none⟩) n c) = some k) : g = k := by simpa [Value.ownBlock] using h
structure Mid (w2 w3 : World) (b g q : Nat) (X : Nat → Prop) (pv bv : Value) (p : Prt) (v : Value) : Prop where
 bg : b ≠ g
 qg : q ≠ g
 qb : q ≠ b
 blk : Blk w3 b 158 #[pv, bv]
 box : Box w3 q p v
 grown : GrownS w2 w3 (fun k => some k = pv.ownBlock)
 at_ : pv.ownBlock = some g ∨ w2.heap.size ≤ g
theorem add_mid {w2 w3 : World} {b g cap cg n q : Nat} {ad : Option Addr} {X : Nat → Prop} {L2 : List (Prt × Value)} {bv : Value} {p : Prt} {v : Value} {zs : List Value} {o : Obj} (h2 : LSg w2 b X L2 [] (.slice ad n cap) bv)
 (hown : w3.ownsRow (b + 1) 89 6 (.slice (some ⟨g, 0, none⟩) (n + 1) cg) (n + 1) (flatP L2 ++ zs)) (hgrow : ((w2.alloc o).drew).grownBy w3 (Value.ownBlock (.slice ad n cap))) (hat : Value.ownBlock (.slice ad n cap) = some g ∨ g = w2.heap.size + 1) (hbox : Box w2 q p v) (hq : ¬ X q) :
 Mid w2 w3 b g q X (.slice ad n cap) bv p v := by
 have hgs : GrownS w2 w3 (fun k => some k = Value.ownBlock (.slice ad n cap)) := (GrownS.of (World.grownBy_alloc w2 o none) (by simp)).trans ((gsb (bdr _ 1)).trans (GrownS.of hgrow (fun _ e => e)))
 have hat' : Value.ownBlock (.slice ad n cap) = some g ∨ w2.heap.size ≤ g := hat.imp (fun e => e) (fun e => by omega)
 have hpv : some b ≠ Value.ownBlock (.slice ad n cap) := own_type h2.row h2.blk (by decide)
 have hql : q < w2.heap.size := Blk.lt hbox
 refine ⟨?_, ?_, ?_, h2.blk.grownS hgs hpv, Blk.grownS hbox hgs (fun e => hq (h2.xp q e.symm)), hgs, hat'⟩
 ·have := (World.ownsRow.lt hown g rfl).1
  omega
 ·rcases hat' with e | e
  ·intro h; exact hq (by rw [h]; exact h2.xp g e)
  ·omega
 ·intro h; exact hq (by rw [h]; exact h2.xb)
theorem add_finA {w2 w3 : World} {b g cap cg n q : Nat} {ad : Option Addr} {X A : Nat → Prop} {L2 : List (Prt × Value)} {bv : Value} {p : Prt} {v z0 z1 z2 z3 z4 z5 : Value} (hM : Mid w2 w3 b g q X (.slice ad n cap) bv p v) (h2 : LSg w2 b X L2 [] (.slice ad n cap) bv) (hn : L2.length = n)
 (hown : w3.ownsRow (b + 1) 89 6 (.slice (some ⟨g, 0, none⟩) (n + 1) cg) (n + 1) (flatP L2 ++ [z0, z1, z2, z3, z4, z5])) (hs : WAt w2 A v p.sub) (hA : ∀ k, A k → InW b X w2 k) :
 LSg ((T6 w3 g (n * 6) (.int .i64 p.kind) (.string (BA p.text)) (.bool p.quote) (.int .i64 p.op) (.bool p.colon) v).setCell ⟨b, 0, none⟩ (.slice (some ⟨g, 0, none⟩) (n + 1) cg)) b (fun k => X k ∨ k = g) (L2 ++ [(p, v)]) [] (.slice (some ⟨g, 0, none⟩) (n + 1) cg) bv ∧ Box ((T6 w3 g (n * 6) (.int .i64 p.kind) (.string (BA p.text)) (.bool p.quote) (.int .i64 p.op) (.bool p.colon) v).setCell ⟨b, 0, none⟩ (.slice (some ⟨g, 0, none⟩) (n + 1) cg)) q p v := by
 subst hn
 refine ⟨(h2.push (x := (p, v)) ?_ ?_ hM.at_ ?_ hs hA).1, Blk.grownS (Blk.grownS hM.box (T6_grown ..) hM.qg) (sbg _ _ _ _) hM.qb⟩
 ·exact blk_set0 (hM.blk.grownS (T6_grown ..) hM.bg) _
 ·exact ((hM.grown.mono (fun k _ e => .inr (.inl e))).trans ((T6_grown ..).mono (fun k _ e => .inr (.inr e)))).trans ((sbg _ _ _ _).mono (fun k _ e => .inl e))
 ·exact own_grownS (T6_own hown (flatP_len L2) ..) (sbg _ _ _ _) (fun k hk e => hM.bg ((ownb hk).trans e).symm)
theorem add_finB {w2 w3 : World} {b g cap cg n q : Nat} {ad : Option Addr} {X A : Nat → Prop} {L2 : List (Prt × Value)} {bv : Value} {p : Prt} {v z0 z1 z2 z3 z4 z5 : Value} (hM : Mid w2 w3 b g q X (.slice ad n cap) bv p v) (h2 : LSg w2 b X L2 [] (.slice ad n cap) bv) (hn : L2.length = n)
 (hown : w3.ownsRow (b + 1) 89 6 (.slice (some ⟨g, 0, none⟩) (n + 1) cg) (n + 1) (flatP L2 ++ [z0, z1, z2, z3, z4, z5])) (hs : WAt w2 A v p.sub) (hA : ∀ k, A k → InW b X w2 k) :
 LSg (T6 (w3.setCell ⟨b, 0, none⟩ (.slice (some ⟨g, 0, none⟩) (n + 1) cg)) g (n * 6) (.int .i64 p.kind) (.string (BA p.text)) (.bool p.quote) (.int .i64 p.op) (.bool p.colon) v) b (fun k => X k ∨ k = g) (L2 ++ [(p, v)]) [] (.slice (some ⟨g, 0, none⟩) (n + 1) cg) bv ∧ Box (T6 (w3.setCell ⟨b, 0, none⟩ (.slice (some ⟨g, 0, none⟩) (n + 1) cg)) g (n * 6) (.int .i64 p.kind) (.string (BA p.text)) (.bool p.quote) (.int .i64 p.op) (.bool p.colon) v) q p v := by
 subst hn
 refine ⟨(h2.push (x := (p, v)) ?_ ?_ hM.at_ ?_ hs hA).1, Blk.grownS (Blk.grownS hM.box (sbg _ _ _ _) hM.qb) (T6_grown ..) hM.qg⟩
 ·exact Blk.grownS (blk_set0 hM.blk _) (T6_grown ..) hM.bg
 ·exact ((hM.grown.mono (fun k _ e => .inr (.inl e))).trans ((sbg _ _ _ _).mono (fun k _ e => .inl e))).trans ((T6_grown ..).mono (fun k _ e => .inr (.inr e)))
 ·exact T6_own (own_grownS hown (sbg _ _ _ _) (fun k hk e => hM.bg ((ownb hk).trans e).symm)) (flatP_len L2) ..
theorem mid_x {w w2 w3 : World} {b g q : Nat} {X : Nat → Prop} {L2 : List (Prt × Value)} {pv bv : Value} {p : Prt} {v : Value} (hM : Mid w2 w3 b g q X pv bv p v) (h2 : LSg w2 b X L2 [] pv bv) (hg : GrownS w w2 X) : (GrownS w w3 X) ∧ ∀ k, X k ∨ k = g → X k ∨ w.heap.size ≤ k := by
 refine ⟨hg.trans (hM.grown.mono (fun k _ e => h2.xp k e.symm)), fun k hk => ?_⟩
 rcases hk with hk | hk
 ·exact .inl hk
 ·subst hk
  rcases hM.at_ with e | e
  ·exact .inl (h2.xp _ e)
  ·exact .inr (lee hg.size e)
theorem add_grownA {w w2 w3 : World} {b g q n cg : Nat} {X : Nat → Prop} {L2 : List (Prt × Value)} {pv bv x0 x1 x2 x3 x4 x5 : Value} {p : Prt} {v : Value} (hM : Mid w2 w3 b g q X pv bv p v) (h2 : LSg w2 b X L2 [] pv bv) (hg : GrownS w w2 X) :
 GrownS w ((T6 w3 g (n * 6) x0 x1 x2 x3 x4 x5).setCell ⟨b, 0, none⟩ (.slice (some ⟨g, 0, none⟩) (n + 1) cg)) X ∧ ∀ k, X k ∨ k = g → X k ∨ w.heap.size ≤ k := by
 obtain ⟨h3, h4⟩ := mid_x hM h2 hg
 have ht := (T6_grown w3 g (n * 6) x0 x1 x2 x3 x4 x5)
 have hs := (sbg (T6 w3 g (n * 6) x0 x1 x2 x3 x4 x5) b 0 (.slice (some ⟨g, 0, none⟩) (n + 1) cg))
 refine ⟨⟨hs.os.trans (ht.os.trans h3.os), hs.tape.trans (ht.tape.trans h3.tape), hs.output.trans (ht.output.trans h3.output), lee h3.size (lee ht.size hs.size), fun k hk hx => ?_⟩, h4⟩
 have hkg : k ≠ g := fun e => by
  rcases h4 k (.inr e) with e' | e'
  ·exact hx e'
  ·omega
 have hkb : k ≠ b := fun e => hx (by rw [e]; exact h2.xb)
 rw [hs.block k (lle hk (lee h3.size ht.size)) hkb, ht.block k (lle hk h3.size) hkg]
 exact h3.block k hk hx
theorem add_grownB {w w2 w3 : World} {b g q n cg : Nat} {X : Nat → Prop} {L2 : List (Prt × Value)} {pv bv x0 x1 x2 x3 x4 x5 : Value} {p : Prt} {v : Value} (hM : Mid w2 w3 b g q X pv bv p v) (h2 : LSg w2 b X L2 [] pv bv) (hg : GrownS w w2 X) :
 GrownS w (T6 (w3.setCell ⟨b, 0, none⟩ (.slice (some ⟨g, 0, none⟩) (n + 1) cg)) g (n * 6) x0 x1 x2 x3 x4 x5) X ∧ ∀ k, X k ∨ k = g → X k ∨ w.heap.size ≤ k := by
 obtain ⟨h3, h4⟩ := mid_x hM h2 hg
 have hs := (sbg w3 b 0 (.slice (some ⟨g, 0, none⟩) (n + 1) cg))
 have ht := (T6_grown (w3.setCell ⟨b, 0, none⟩ (.slice (some ⟨g, 0, none⟩) (n + 1) cg)) g (n * 6) x0 x1 x2 x3 x4 x5)
 refine ⟨⟨ht.os.trans (hs.os.trans h3.os), ht.tape.trans (hs.tape.trans h3.tape), ht.output.trans (hs.output.trans h3.output), lee h3.size (lee hs.size ht.size), fun k hk hx => ?_⟩, h4⟩
 have hkg : k ≠ g := fun e => by
  rcases h4 k (.inr e) with e' | e'
  ·exact hx e'
  ·omega
 have hkb : k ≠ b := fun e => hx (by rw [e]; exact h2.xb)
 rw [ht.block k (lle hk (lee h3.size hs.size)) hkg, hs.block k (lle hk h3.size) hkb]
 exact h3.block k hk hx
theorem addP_no {L : List (Prt × Value)} {bs : List UInt8} {p : Prt} (hg : goesB L p = false) : addP ((setL L bs).map Prod.fst) p = (setL L bs).map Prod.fst ++ [p] := by
 by_cases hL : L = []
 ·subst hL; rfl
 ·obtain ⟨M, y, rfl⟩ := last_ex hL
  unfold goesB at hg
  simp only [List.getLast?_append, List.getLast?_singleton, Option.some_or] at hg
  have key : ∀ y' : Prt × Value, y'.1.kind = y.1.kind → y'.1.quote = y.1.quote → addP ((M ++ [y']).map Prod.fst) p = (M ++ [y']).map Prod.fst ++ [p] := by
   intro y' h1 h2
   obtain ⟨⟨k, t, q, o, c, s⟩, u⟩ := y'
   rw [List.map_append]
   show addP (M.map Prod.fst ++ [.mk k t q o c s]) p = _
   rw [addP_snoc, if_neg]
   ·simp
   ·rintro ⟨e1, e2, e3⟩
    have e4 : y.1.kind = 1 := by rw [← h1]; exact e1
    have e5 : y.1.quote = p.quote := by rw [← h2]; exact e3
    simp [e4, e5, e2] at hg
  unfold setL
  simp only [List.getLast?_append, List.getLast?_singleton, Option.some_or, List.dropLast_concat]
  split
  ·exact key _ rfl rfl
  ·exact key _ rfl rfl
theorem end_oth {w w5 : World} {b g : Nat} {X : Nat → Prop} {L : List (Prt × Value)} {bs : List UInt8} {ps : List Prt} {p : Prt} {v pv bv : Value} (hps : (setL L bs).map Prod.fst = ps) (hg : goesB L p = false) (hk : (p.kind == 1) = false) (h5 : LSg w5 b (fun k => X k ∨ k = g) (setL L bs ++ [(p, v)]) [] pv bv) (hG : GrownS w w5 X) (hX : ∀ k, X k ∨ k = g → X k ∨ w.heap.size ≤ k) :
 ∃ X', LSt w5 b X' (addP ps p) ∧ GrownS w w5 X ∧ ∀ k, X' k → X k ∨ w.heap.size ≤ k := by
 refine ⟨_, ⟨_, _, _, _, h5, ?_, fun _ => rfl⟩, hG, hX⟩
 subst hps
 rw [addP_no hg]
 unfold setL
 simp [hk]
theorem GrownS.trans2 {w w1 w2 : World} {S T : Nat → Prop} (h : GrownS w w1 S) (h2 : GrownS w1 w2 T) (hT : ∀ k, k < w.heap.size → T k → S k) : GrownS w w2 S :=
 ⟨h2.os.trans h.os, h2.tape.trans h.tape, h2.output.trans h.output, lee h.size h2.size, fun k hk hn => (h2.block k (lle hk h.size) (fun e => hn (hT k hk e))).trans (h.block k hk hn)⟩
theorem end_lit {w w5 w7 : World} {b g : Nat} {X : Nat → Prop} {L : List (Prt × Value)} {bs : List UInt8} {ps : List Prt} {p : Prt} {v pv v6 : Value} (hps : (setL L bs).map Prod.fst = ps) (hg : goesB L p = false) (hk : (p.kind == 1) = true) (h7 : LSg w7 b (fun k => (X k ∨ k = g) ∨ v6.ownBlock = some k) (setL L bs ++ [(p, v)]) ([] ++ p.text) pv v6) (hG : GrownS w w5 X) (hX : ∀ k, X k ∨ k = g → X k ∨ w.heap.size ≤ k) (h57 : GrownS w5 w7 (fun k => X k ∨ k = g)) (h6 : ∀ k, v6.ownBlock = some k → Value.ownBlock (.slice none 0 0) = some k ∨ w5.heap.size ≤ k) :
 ∃ X', LSt w7 b X' (addP ps p) ∧ GrownS w w7 X ∧ ∀ k, X' k → X k ∨ w.heap.size ≤ k := by
 refine ⟨_, ⟨_, _, _, _, h7, ?_, fun e => ?_⟩, hG.trans2 h57 (fun k hk e => ?_), fun k hk' => ?_⟩
 ·subst hps
  rw [addP_no hg]
  unfold setL
  simp only [List.getLast?_append, List.getLast?_singleton, Option.some_or, hk, if_true, List.dropLast_concat, List.map_append]
  congr 1
  obtain ⟨k, t, q, o, c, s⟩ := p
  rfl
 ·unfold litB at e
  simp [hk] at e
 ·rcases hX k e with e | e
  ·exact e
  ·omega
 ·rcases hk' with e | e
  ·exact hX k e
  ·rcases h6 k e with e | e
   ·cases e
   ·exact .inr (lee hG.size e)
theorem end_on {w w2 w7 : World} {b : Nat} {X : Nat → Prop} {L : List (Prt × Value)} {bs : List UInt8} {ps : List Prt} {p : Prt} {pv bv v6 : Value} (hps : (setL L bs).map Prod.fst = ps) (hg : goesB L p = true) (hbv : ∀ k, bv.ownBlock = some k → X k) (h7 : LSg w7 b (fun k => X k ∨ v6.ownBlock = some k) L (bs ++ p.text) pv v6) (hG : GrownS w w2 X) (h57 : GrownS w2 w7 X) (h6 : ∀ k, v6.ownBlock = some k → bv.ownBlock = some k ∨ w2.heap.size ≤ k) :
 ∃ X', LSt w7 b X' (addP ps p) ∧ GrownS w w7 X ∧ ∀ k, X' k → X k ∨ w.heap.size ≤ k := by
 have hL : L ≠ [] := by
  intro e
  rw [e] at hg
  cases hg
 obtain ⟨M, y, rfl⟩ := last_ex hL
 unfold goesB at hg
 simp only [List.getLast?_append, List.getLast?_singleton, Option.some_or, Bool.and_eq_true, beq_iff_eq] at hg
 obtain ⟨hk, hy, hq⟩ := hg
 refine ⟨_, ⟨_, _, _, _, h7, ?_, fun e => ?_⟩, hG.trans h57, fun k hk' => ?_⟩
 ·subst hps
  unfold setL
  simp only [List.getLast?_append, List.getLast?_singleton, Option.some_or, hy, beq_self_eq_true, if_true, List.dropLast_concat, List.map_append, List.map_cons, List.map_nil]
  unfold setT
  simp only
  rw [addP_snoc, if_pos ⟨hy, hk, hq⟩]
 ·unfold litB at e
  simp [hy] at e
 ·rcases hk' with e | e
  ·exact .inl e
  ·rcases h6 k e with e | e
   ·exact .inl (hbv k e)
   ·exact .inr (lee hG.size e)
theorem bs_len {L : List (Prt × Value)} {bs : List UInt8} {ps : List Prt} (hps : (setL L bs).map Prod.fst = ps) (hb : litB L = false → bs = []) : bs.length ≤ tlen ps := by
 by_cases hL : L = []
 ·subst hL
  rw [hb rfl]
  simp
 ·obtain ⟨M, y, rfl⟩ := last_ex hL
  rcases Bool.eq_false_or_eq_true (y.1.kind == 1) with hk | hk
  ·subst hps
   unfold setL
   simp only [List.getLast?_append, List.getLast?_singleton, Option.some_or, hk, if_true, List.dropLast_concat, List.map_append, List.map_cons, List.map_nil]
   rw [tlen_snoc]
   show bs.length ≤ _ + bs.length
   omega
  ·rw [hb (by unfold litB; simp [hk])]
   simp
end Go.Proofs.YtojjfdobilkknaaGreatDoor
namespace Go.Proofs.YtojjfdobilkknaaGreatDoor
open Go.RowKit
section
variable {P : Program} {ops : Array Oper} {Q : Exit → Act → World → Prop} {md : Region.Mode} {S : World → Prop} {fuel : Nat} {listed : Array Bool} {a : Act} {w : World}
theorem tk (i : Nat) {oi : Oper} {v : Value} (hy : ∀ w, S w → (execOp a.eval oi).run P w = .ok (.value v) w) (h : wpAnyH P md ops Q S fuel (listed.setIfInBounds i true) (a.put oi.dst v) w) (hi : ops[i]? = some oi := by rfl) (hs : Region.noSelect ops = true := by kernel_rfl) (hf : Region.free md ops listed i = true := by kernel_rfl) (hr : (Region.ready md ops listed).contains i = true := by kernel_rfl) (hQ : ∀ c a w, Q (.panic c) (a.put oi.dst v) w → Q (.panic c) a w := by exact fun _ _ _ h => h) (hw : Region.wanted oi (yielded ops a.tmps) = true := by rfl) (hS : S w := by assumption) : wpAnyH P md ops Q S (fuel + 1) listed a w := wpAnyH_take hi hs hf hr hQ (Or.inl ⟨hw, hy⟩) hS h
theorem rd1 (i : Nat) {o : Oper} (h : ∀ K' : Act → World → Prop, Shut (∀ a w, S w → (S w → wpAnyH P md ops Q S fuel (listed.setIfInBounds i true) a w) → K' a w) → if Region.wanted o (yielded ops a.tmps) = true then Oper.wp P o a w K' Q else K' (a.put o.dst undef) w) (hr : Region.ready md ops listed = [i] := by kernel_rfl) (ho : ops[i]? = some o := by rfl) : wpAnyH P md ops Q S (fuel + 1) listed a w := wpAnyH_ready hr (by simp) (.cons ho h .nil)
end
theorem cel9 {w : World} {b : Nat} {t : TypeId} {v0 v1 v2 v3 v4 v5 v6 v7 v8 : Value} (h : Blk w b t #[v0, v1, v2, v3, v4, v5, v6, v7, v8]) : w.cell? ⟨b, 0, none⟩ = some v0 ∧ w.cell? ⟨b, 1, none⟩ = some v1 ∧ w.cell? ⟨b, 2, none⟩ = some v2 ∧ w.cell? ⟨b, 3, none⟩ = some v3 ∧ w.cell? ⟨b, 4, none⟩ = some v4 ∧ w.cell? ⟨b, 5, none⟩ = some v5 ∧ w.cell? ⟨b, 6, none⟩ = some v6 ∧ w.cell? ⟨b, 7, none⟩ = some v7 ∧ w.cell? ⟨b, 8, none⟩ = some v8 := ⟨h.cell 0 rfl, h.cell 1 rfl, h.cell 2 rfl, h.cell 3 rfl, h.cell 4 rfl, h.cell 5 rfl, h.cell 6 rfl, h.cell 7 rfl, h.cell 8 rfl⟩
theorem cel6 {w : World} {b : Nat} {t : TypeId} {v0 v1 v2 v3 v4 v5 : Value} (h : Blk w b t #[v0, v1, v2, v3, v4, v5]) : w.cell? ⟨b, 0, none⟩ = some v0 ∧ w.cell? ⟨b, 1, none⟩ = some v1 ∧ w.cell? ⟨b, 2, none⟩ = some v2 ∧ w.cell? ⟨b, 3, none⟩ = some v3 ∧ w.cell? ⟨b, 4, none⟩ = some v4 ∧ w.cell? ⟨b, 5, none⟩ = some v5 := ⟨h.cell 0 rfl, h.cell 1 rfl, h.cell 2 rfl, h.cell 3 rfl, h.cell 4 rfl, h.cell 5 rfl⟩
end Go.Proofs.YtojjfdobilkknaaGreatDoor
namespace Go.Proofs.YtojjfdobilkknaaGreatDoor
open Go.RowKit
theorem ladd_on (w : World) (b : Nat) (X A : Nat → Prop) (L : List (Prt × Value)) (bs : List UInt8) (ps : List Prt) (pv bv x : Value) (p : Prt) (h : LSg w b X L bs pv bv) (hps : (setL L bs).map Prod.fst = ps) (hbs : litB L = false → bs = []) (hx : PV w A x p) (hA : ∀ k, A k → InW b X w k) (hl : ps.length ≤ 100000) (ht : tlen ps + p.text.length ≤ 1000000) (hgo : goesB L p = true) :
 Calls Tryz.prog 138 #[.pointer (some ⟨b, 0, none⟩), x] w fun e w' => e = .returned (.tuple #[]) ∧ ∃ X', LSt w' b X' (addP ps p) ∧ GrownS w w' X ∧ ∀ k, X' k → X k ∨ w.heap.size ≤ k := by
 obtain ⟨i0, hi, hz0, hz1, hz2⟩ := info_of info_byte
 have hLl : L.length ≤ 100000 := by rw [← hps, List.length_map, setL_len] at hl; exact hl
 have hbl0 := bs_len hps hbs
 have HLT : Hid (bs.length + p.text.length ≤ 1000000) := hide (by omega)
 obtain ⟨v, rfl, hsub⟩ := hx
 obtain ⟨va, vc, rfl, _⟩ := hsub.len
 obtain ⟨vn, hvn⟩ : ∃ n, n = p.sub.length := ⟨_, rfl⟩
 rw [← hvn] at hsub ⊢
 obtain ⟨ba, bn, bc, hbv⟩ := h.bshape
 subst hbv
 have hbl := h.blk.lt
 have HQB : Hid (¬ w.heap.size = b) := hide (by omega)
 have HPS := hide hps
 have HGO := hide hgo
 have hbox : Box (w.alloc (.cells #[.int .i64 p.kind, .string (BA p.text), .bool p.quote, .int .i64 p.op, .bool p.colon, .slice va vn vc] 89)) w.heap.size p (.slice va vn vc) := Blk.new w _ _
 have HC : Hid (∀ o, Calls Tryz.prog 146 #[.pointer (some ⟨b, 0, none⟩), .agg #[.int .i64 p.kind, .string (BA p.text), .bool p.quote, .int .i64 p.op, .bool p.colon, .slice va vn vc]] (w.alloc o) fun e w' => e = .returned (.bool true) ∧ Below (w.alloc o).heap.size (w.alloc o) w') := hide (fun o => by
  rw [← hgo]
  exact goesOn_any _ b X A L bs pv _ _ p (h.below ((Below.refl _ _).alloc (ler _) _)) ⟨_, rfl, hsub.below ((Below.refl _ _).alloc (ler _) _) (fun k hk => (hA k hk).2.1)⟩ hLl)
 have HB0 : Hid (LSg (w.alloc (.cells #[.int .i64 p.kind, .string (BA p.text), .bool p.quote, .int .i64 p.op, .bool p.colon, .slice va vn vc] 89)) b X L bs pv (.slice ba bn bc) ∧ Box (w.alloc (.cells #[.int .i64 p.kind, .string (BA p.text), .bool p.quote, .int .i64 p.op, .bool p.colon, .slice va vn vc] 89)) w.heap.size p (.slice va vn vc)) := hide ⟨h.below ((Below.refl _ _).alloc (ler _) _), hbox⟩
 have hk1 : (p.kind == 1) = true := by
  unfold goesB at hgo
  split at hgo
  ·cases hgo
  ·simp at hgo; simp [hgo.1]
 have HBS : Hid (∀ k, Value.ownBlock (.slice ba bn bc) = some k → X k) := hide h.xv
 clear hsub hps hbs hgo hbox h hl ht hbl0 hA hvn hLl
 go_enter Tryz.func138, Tryz.ntmps138
 go_wp2_with fail
 refine ((uh HC) _).mono ?_
 rintro e w2 ⟨rfl, b2⟩
 have HG2 : Hid (GrownS w w2 X) := hide (gsb (((Below.refl _ _).alloc (ler _) _).trans (b2.mono (by simp))))
 have H5 : Hid (LSg w2 b X L bs pv (.slice ba bn bc) ∧ Box w2 w.heap.size p (.slice va vn vc)) := hide ⟨(uh HB0).1.below b2, Blk.below (uh HB0).2 b2 (by simp)⟩
 have f1 : w2.cell? ⟨b, 1, none⟩ = some (.slice ba bn bc) := (uh H5).1.blk.cell 1 rfl
 have q0 : w2.cell? ⟨w.heap.size, 0, none⟩ = some (.int .i64 p.kind) := (uh H5).2.six.1
 clear b2 HC HB0
 go_wp2_with fail
 refine wp_region_held_drew (S := fun w' => Box w' w.heap.size p (.slice va vn vc)) (by kernel_rfl) (by exact (uh H5).2) (fun hHeld => ?_)
 refine tk 0 (v := ?_) ?_ ?_
 rotate_left
 ·intro w hSw; obtain ⟨s0, s1, s2, s3, s4, s5⟩ := Box.six hSw; go_simp; (try with_reducible rfl)
 go_frame
 refine tk 1 (v := ?_) ?_ ?_
 rotate_left
 ·intro w hSw; obtain ⟨s0, s1, s2, s3, s4, s5⟩ := Box.six hSw; go_simp; (try with_reducible rfl)
 go_frame
 refine tk 2 (v := ?_) ?_ ?_
 rotate_left
 ·intro w hSw; obtain ⟨s0, s1, s2, s3, s4, s5⟩ := Box.six hSw; go_simp; (try with_reducible rfl)
 go_frame
 refine tk 3 (v := ?_) ?_ ?_
 rotate_left
 ·intro w hSw; obtain ⟨s0, s1, s2, s3, s4, s5⟩ := Box.six hSw; go_simp; (try with_reducible rfl)
 go_frame
 refine tk 5 (v := ?_) ?_ ?_
 rotate_left
 ·intro w hSw; obtain ⟨s0, s1, s2, s3, s4, s5⟩ := Box.six hSw; go_simp; (try with_reducible rfl)
 go_frame
 refine tk 6 (v := ?_) ?_ ?_
 rotate_left
 ·intro w hSw; obtain ⟨s0, s1, s2, s3, s4, s5⟩ := Box.six hSw; go_simp; (try with_reducible rfl)
 go_frame
 refine rd1 4 (fun KK hKK => ?_)
 go_simp
 refine hKK.out _ _ (by exact (uh H5).2) (fun hHeld => ?_)
 clear hKK KK
 try go_frame
 refine rd1 7 (fun KK hKK => ?_)
 refine step_append_str (by rfl) _ _ _ _ (by rfl) (b + 1) 5 i0 und_bytes und_str hi hz0 hz1 hz2 (.slice ba bn bc) (List.length bs) (Lib.byteCells bs) (by simp [Act.eval]) (own_drew (uh H5).1.own) (BA p.text) (by simp [Act.eval]) (by have h1 := uh HLT; unfold maxLen; simp at h1 ⊢; omega) (by have h1 := uh HLT; simp at h1 ⊢; omega) (by have h1 := (uh H5).1.blk.lt; simp; omega) ?_
 intro v6 w6 hown6 hgrow6 hat6
 obtain ⟨v6a, v6n, v6c, hv6⟩ := slice_own hown6
 subst hv6
 have H7 := hide ((uh H5).1.setB (w1 := w6) ((gsb (bdr _ 1)).trans (GrownS.of hgrow6 (fun _ e => e))) (own_push (l := bs) (c := p.text) (by simp) rfl hown6) hat6)
 have H6X := hide hat6
 have f6 : w6.cell? ⟨b, 1, none⟩ = some (.slice ba bn bc) := (Blk.kept (blk_drew (uh H5).1.blk) hgrow6 (own_type (own_drew (uh H5).1.own) (blk_drew (uh H5).1.blk) (by decide))).cell 1 rfl
 have y6 : w6.frozen? ⟨b, 1, none⟩ = false := (Blk.kept (blk_drew (uh H5).1.blk) hgrow6 (own_type (own_drew (uh H5).1.own) (blk_drew (uh H5).1.blk) (by decide))).frozen 1
 have HB6 : Hid (Box w6 w.heap.size p (.slice va vn vc)) := hide (Blk.kept (blk_drew (uh H5).2) hgrow6 (own_type (own_drew (uh H5).1.own) (blk_drew (uh H5).2) (by decide)))
 clear hown6 hgrow6 hat6
 refine hKK.out _ _ (by exact uh HB6) (fun hHeld => ?_)
 clear hKK KK
 try go_frame
 refine tk 8 (v := ?_) ?_ ?_
 rotate_left
 ·intro w hSw; obtain ⟨s0, s1, s2, s3, s4, s5⟩ := Box.six hSw; go_simp; (try with_reducible rfl)
 go_frame
 refine tk 9 (v := ?_) ?_ ?_
 rotate_left
 ·intro w hSw; obtain ⟨s0, s1, s2, s3, s4, s5⟩ := Box.six hSw; go_simp; (try with_reducible rfl)
 go_frame
 refine rd1 10 (fun KK hKK => ?_)
 go_simp
 refine hKK.out _ _ (by exact Blk.grownS (uh HB6) (sbg _ _ _ _) (uh HQB)) (fun hHeld => ?_)
 clear hKK KK
 try go_frame
 clear hHeld
 refine wpAnyH_done (by kernel_rfl) ?_ _
 go_wp2
 refine bodyPost_end (res0 rfl _ _) rfl ?_
 exact ⟨rfl, end_on (uh HPS) (uh HGO) (uh HBS) (uh H7).1 (uh HG2) (uh H7).2 (uh H6X)⟩
theorem ladd_new (w : World) (b : Nat) (X A : Nat → Prop) (L : List (Prt × Value)) (bs : List UInt8) (ps : List Prt) (pv bv x : Value) (p : Prt) (h : LSg w b X L bs pv bv) (hps : (setL L bs).map Prod.fst = ps) (hbs : litB L = false → bs = []) (hx : PV w A x p) (hA : ∀ k, A k → InW b X w k) (hl : ps.length ≤ 100000) (ht : tlen ps + p.text.length ≤ 1000000) (hgo : goesB L p = false) :
 Calls Tryz.prog 138 #[.pointer (some ⟨b, 0, none⟩), x] w fun e w' => e = .returned (.tuple #[]) ∧ ∃ X', LSt w' b X' (addP ps p) ∧ GrownS w w' X ∧ ∀ k, X' k → X k ∨ w.heap.size ≤ k := by
 obtain ⟨i0, hi, hz0, hz1, hz2⟩ := info_of info_byte
 have hLl : L.length ≤ 100000 := by rw [← hps, List.length_map, setL_len] at hl; exact hl
 have hbl0 := bs_len hps hbs
 have HLT : Hid (([] : List UInt8).length + p.text.length ≤ 1000000) := hide (by simp; omega)
 obtain ⟨v, rfl, hsub⟩ := hx
 obtain ⟨va, vc, rfl, _⟩ := hsub.len
 obtain ⟨vn, hvn⟩ : ∃ n, n = p.sub.length := ⟨_, rfl⟩
 rw [← hvn] at hsub ⊢
 obtain ⟨ba, bn, bc, hbv⟩ := h.bshape
 subst hbv
 have hbl := h.blk.lt
 have HQB : Hid (¬ w.heap.size = b) := hide (by omega)
 have HPS := hide hps
 have HGO := hide hgo
 have hbox : Box (w.alloc (.cells #[.int .i64 p.kind, .string (BA p.text), .bool p.quote, .int .i64 p.op, .bool p.colon, .slice va vn vc] 89)) w.heap.size p (.slice va vn vc) := Blk.new w _ _
 have HC : Hid (∀ o, Calls Tryz.prog 146 #[.pointer (some ⟨b, 0, none⟩), .agg #[.int .i64 p.kind, .string (BA p.text), .bool p.quote, .int .i64 p.op, .bool p.colon, .slice va vn vc]] (w.alloc o) fun e w' => e = .returned (.bool false) ∧ Below (w.alloc o).heap.size (w.alloc o) w') := hide (fun o => by
  rw [← hgo]
  exact goesOn_any _ b X A L bs pv _ _ p (h.below ((Below.refl _ _).alloc (ler _) _)) ⟨_, rfl, hsub.below ((Below.refl _ _).alloc (ler _) _) (fun k hk => (hA k hk).2.1)⟩ hLl)
 have HB0 : Hid (LSg (w.alloc (.cells #[.int .i64 p.kind, .string (BA p.text), .bool p.quote, .int .i64 p.op, .bool p.colon, .slice va vn vc] 89)) b X L bs pv (.slice ba bn bc) ∧ Box (w.alloc (.cells #[.int .i64 p.kind, .string (BA p.text), .bool p.quote, .int .i64 p.op, .bool p.colon, .slice va vn vc] 89)) w.heap.size p (.slice va vn vc)) := hide ⟨h.below ((Below.refl _ _).alloc (ler _) _), hbox⟩
 obtain ⟨iT, hiT, hzT0, hzT1, hzT2⟩ := info_of info_part
 obtain ⟨kv, hkv⟩ : ∃ kv, (p.kind == 1) = kv := ⟨_, rfl⟩
 have HKK := hide hkv
 clear hkv
 have HXQ : Hid (¬ X w.heap.size) := hide (fun e => by have := h.hi _ e; omega)
 have HS0 : Hid (WAt w A (.slice va vn vc) p.sub ∧ ∀ k, A k → InW b X w k) := hide ⟨hsub, hA⟩
 have HLL := hide hLl
 clear hsub hps hbs hgo hbox h hl ht hbl0 hA hvn hLl
 go_enter Tryz.func138, Tryz.ntmps138
 go_wp2_with fail
 refine ((uh HC) _).mono ?_
 rintro e w1 ⟨rfl, b1⟩
 have HG1 : Hid (Below w.heap.size w w1) := hide (((Below.refl _ _).alloc (ler _) _).trans (b1.mono (by simp)))
 have H1 : Hid (LSg w1 b X L bs pv (.slice ba bn bc) ∧ Box w1 w.heap.size p (.slice va vn vc)) := hide ⟨(uh HB0).1.below b1, Blk.below (uh HB0).2 b1 (by simp)⟩
 clear b1 HC HB0
 go_wp2_with fail
 refine (settle_any w1 b X L bs pv _ (uh H1).1 (uh HLL)).mono ?_
 rintro e w2 ⟨rfl, h2, g2⟩
 have HG2 : Hid (GrownS w w2 X) := hide ((gsb (uh HG1)).trans g2)
 have HBX : Hid (Box w2 w.heap.size p (.slice va vn vc)) := hide (Blk.grownS (uh H1).2 g2 (uh HXQ))
 have HSUB : Hid (WAt w2 A (.slice va vn vc) p.sub) := hide ((uh HS0).1.kept (fun k hk => (uh HG2).block k ((uh HS0).2 k hk).2.1 ((uh HS0).2 k hk).2.2) (fun _ h => h))
 have HIN : Hid (∀ k, A k → InW b X w2 k) := hide (fun k hk => ⟨((uh HS0).2 k hk).1, lle ((uh HS0).2 k hk).2.1 (uh HG2).size, ((uh HS0).2 k hk).2.2⟩)
 obtain ⟨L2, hL2⟩ : ∃ x, x = setL L bs := ⟨_, rfl⟩
 rw [← hL2] at h2
 obtain ⟨ad, cap, rfl, _⟩ := h2.pshape
 obtain ⟨n, hn⟩ : ∃ n, L2.length = n := ⟨_, rfl⟩
 rw [hn] at h2
 have hnl : n ≤ 100000 := by rw [← hn, hL2, setL_len]; exact uh HLL
 have HROW : Hid (w2.ownsRow (b + 1) 89 6 (.slice ad n cap) n (flatP L2)) := hide (by have := h2.row; rwa [hn] at this)
 have c0 : w2.cell? ⟨b, 0, none⟩ = some (.slice ad n cap) := h2.blk.cell 0 rfl
 have hb2 := h2.blk.lt
 have HPS2 : Hid (L2 = setL L bs) := hide hL2
 have HN := hide hn
 have hnn : (n : Int) < (n : Int) + 1 := by omega
 have H2 := hide h2
 clear h2 g2 H1 HG1 hn hL2 HS0 hbl
 go_wp2_with fail
 refine wp_region_held_drew (S := fun w' => Box w' w.heap.size p (.slice va vn vc)) (by kernel_rfl) (by exact uh HBX) (fun hHeld => ?_)
 refine tk 0 (v := ?_) ?_ ?_
 rotate_left
 ·intro w hSw; obtain ⟨s0, s1, s2, s3, s4, s5⟩ := Box.six hSw; go_simp; (try with_reducible rfl)
 go_frame
 refine tk 1 (v := ?_) ?_ ?_
 rotate_left
 ·intro w hSw; obtain ⟨s0, s1, s2, s3, s4, s5⟩ := Box.six hSw; go_simp; (try with_reducible rfl)
 go_frame
 refine tk 2 (v := ?_) ?_ ?_
 rotate_left
 ·intro w hSw; obtain ⟨s0, s1, s2, s3, s4, s5⟩ := Box.six hSw; go_simp; (try with_reducible rfl)
 go_frame
 refine tk 4 (v := ?_) ?_ ?_
 rotate_left
 ·intro w hSw; obtain ⟨s0, s1, s2, s3, s4, s5⟩ := Box.six hSw; go_simp; (try with_reducible rfl)
 go_frame
 refine wpAnyH_ready (rs := [3, 6]) (by kernel_rfl) (by simp) ?_
 refine AllReadyH.cons rfl (fun KK hKK => ?_) (AllReadyH.cons rfl (fun KK hKK => ?_) AllReadyH.nil)
 focus
  go_simp
  refine hKK.out _ _ (by exact uh HBX) (fun hHeld => ?_)
  clear hKK KK
  try go_frame
  refine tk 5 (v := ?_) ?_ ?_
  rotate_left
  ·intro w hSw; obtain ⟨s0, s1, s2, s3, s4, s5⟩ := Box.six hSw; go_simp; (try with_reducible rfl)
  go_frame
  refine rd1 6 (fun KK hKK => ?_)
  go_simp
  have c0a : (w2.alloc (.cells #[.int .i64 0, .string ⟨#[]⟩, .bool false, .int .i64 0, .bool false, .slice none 0 0] 89)).cell? ⟨b, 0, none⟩ = some (.slice ad n cap) := cell_alloc c0 _
  have HBX1 : Hid (Box (w2.alloc (.cells #[.int .i64 0, .string ⟨#[]⟩, .bool false, .int .i64 0, .bool false, .slice none 0 0] 89)) w.heap.size p (.slice va vn vc)) := hide (Blk.alloc (uh HBX) _)
  refine hKK.out _ _ (by exact uh HBX1) (fun hHeld => ?_)
  clear hKK KK
  try go_frame
  refine rd1 7 (fun KK hKK => ?_)
  refine step_append_lies _ (by rfl) _ _ _ (by rfl) (b + 1) 89 iT _ 6 72 und_word hiT hzT0 hzT1 hzT2 rfl (by decide) (.slice ad n cap) n (flatP L2) (by simp [Act.eval]) (own_drew (World.ownsRow.alloc (uh HROW) _)) ⟨w2.heap.size, 0, none⟩ 1 1 [.int .i64 0, .string ⟨#[]⟩, .bool false, .int .i64 0, .bool false, .slice none 0 0] (by simp [Act.eval]) rfl six_cells zero_is (by decide) (by unfold maxLen; omega) (by omega) (by simp; omega) (w2.heap.size + 1) (by simp) ?_
  intro g cg w3 hown3 hgrow hat hlt3
  have HM := hide (add_mid (uh H2) hown3 hgrow hat (uh HBX) (uh HXQ))
  have HO3 := hide hown3
  have d0 : w3.cell? ⟨b, 0, none⟩ = some (.slice ad n cap) := (uh HM).blk.cell 0 rfl
  have z0 : w3.frozen? ⟨b, 0, none⟩ = false := (uh HM).blk.frozen 0
  have e0 := own_cell (j := n * 6) (uh HO3) (zero_at (uh HN) 0)
  have e1 := own_cell (j := n * 6 + 1) (uh HO3) (zero_at (uh HN) 1)
  have e2 := own_cell (j := n * 6 + 2) (uh HO3) (zero_at (uh HN) 2)
  have e3 := own_cell (j := n * 6 + 3) (uh HO3) (zero_at (uh HN) 3)
  have e4 := own_cell (j := n * 6 + 4) (uh HO3) (zero_at (uh HN) 4)
  have e5 := own_cell (j := n * 6 + 5) (uh HO3) (zero_at (uh HN) 5)
  obtain ⟨e0a, e0b⟩ := e0
  obtain ⟨e1a, e1b⟩ := e1
  obtain ⟨e2a, e2b⟩ := e2
  obtain ⟨e3a, e3b⟩ := e3
  obtain ⟨e4a, e4b⟩ := e4
  obtain ⟨e5a, e5b⟩ := e5
  clear hown3 hgrow hat hlt3
  refine hKK.out _ _ (by exact (uh HM).box) (fun hHeld => ?_)
  clear hKK KK
  try go_frame
  refine tk 8 (v := ?_) ?_ ?_
  rotate_left
  ·intro w hSw; obtain ⟨s0, s1, s2, s3, s4, s5⟩ := Box.six hSw; go_simp; (try with_reducible rfl)
  go_frame
  refine tk 10 (v := ?_) ?_ ?_
  rotate_left
  ·intro w hSw; obtain ⟨s0, s1, s2, s3, s4, s5⟩ := Box.six hSw; go_simp; (try with_reducible rfl)
  go_frame
  refine tk 11 (v := ?_) ?_ ?_
  rotate_left
  ·intro w hSw; obtain ⟨s0, s1, s2, s3, s4, s5⟩ := Box.six hSw; go_simp; (try with_reducible rfl)
  go_frame
  refine wpAnyH_ready (rs := [9, 12]) (by kernel_rfl) (by simp) ?_
  refine AllReadyH.cons rfl (fun KK hKK => ?_) (AllReadyH.cons rfl (fun KK hKK => ?_) AllReadyH.nil)
  focus
   go_simp
   have d0A : ((((((w3.setCell ⟨g, n * 6, none⟩ (.int .i64 p.kind)).setCell ⟨g, n * 6 + 1, none⟩ (.string (BA p.text))).setCell ⟨g, n * 6 + 2, none⟩ (.bool p.quote)).setCell ⟨g, n * 6 + 3, none⟩ (.int .i64 p.op)).setCell ⟨g, n * 6 + 4, none⟩ (.bool p.colon)).setCell ⟨g, n * 6 + 5, none⟩ (.slice va vn vc)).cell? ⟨b, 0, none⟩ = some (.slice ad n cap) := Blk.cell (show Blk (T6 w3 g (n * 6) (.int .i64 p.kind) (.string (BA p.text)) (.bool p.quote) (.int .i64 p.op) (.bool p.colon) (.slice va vn vc)) b 158 _ from (uh HM).blk.grownS (T6_grown ..) (uh HM).bg) 0 rfl
   have z0A : ((((((w3.setCell ⟨g, n * 6, none⟩ (.int .i64 p.kind)).setCell ⟨g, n * 6 + 1, none⟩ (.string (BA p.text))).setCell ⟨g, n * 6 + 2, none⟩ (.bool p.quote)).setCell ⟨g, n * 6 + 3, none⟩ (.int .i64 p.op)).setCell ⟨g, n * 6 + 4, none⟩ (.bool p.colon)).setCell ⟨g, n * 6 + 5, none⟩ (.slice va vn vc)).frozen? ⟨b, 0, none⟩ = false := Blk.frozen (show Blk (T6 w3 g (n * 6) (.int .i64 p.kind) (.string (BA p.text)) (.bool p.quote) (.int .i64 p.op) (.bool p.colon) (.slice va vn vc)) b 158 _ from (uh HM).blk.grownS (T6_grown ..) (uh HM).bg) 0
   refine hKK.out _ _ (by exact show Box (T6 w3 g (n * 6) (.int .i64 p.kind) (.string (BA p.text)) (.bool p.quote) (.int .i64 p.op) (.bool p.colon) (.slice va vn vc)) w.heap.size p (.slice va vn vc) from Blk.grownS (uh HM).box (T6_grown ..) (uh HM).qg) (fun hHeld => ?_)
   clear hKK KK
   try go_frame
   refine rd1 12 (fun KK hKK => ?_)
   go_simp
   refine hKK.out _ _ (by exact show Box ((T6 w3 g (n * 6) (.int .i64 p.kind) (.string (BA p.text)) (.bool p.quote) (.int .i64 p.op) (.bool p.colon) (.slice va vn vc)).setCell ⟨b, 0, none⟩ (.slice (some ⟨g, 0, none⟩) (n + 1) cg)) w.heap.size p (.slice va vn vc) from Blk.grownS (Blk.grownS (uh HM).box (T6_grown ..) (uh HM).qg) (sbg _ _ _ _) (uh HM).qb) (fun hHeld => ?_)
   clear hKK KK
   try go_frame
   clear hHeld
   refine wpAnyH_done (by kernel_rfl) ?_ _
   obtain ⟨w5, hw5⟩ : ∃ x, x = (((((((w3.setCell ⟨g, n * 6, none⟩ (.int .i64 p.kind)).setCell ⟨g, n * 6 + 1, none⟩ (.string (BA p.text))).setCell ⟨g, n * 6 + 2, none⟩ (.bool p.quote)).setCell ⟨g, n * 6 + 3, none⟩ (.int .i64 p.op)).setCell ⟨g, n * 6 + 4, none⟩ (.bool p.colon)).setCell ⟨g, n * 6 + 5, none⟩ (.slice va vn vc)).setCell ⟨b, 0, none⟩ (.slice (some ⟨g, 0, none⟩) (n + 1) cg)) := ⟨_, rfl⟩
   have H5 : Hid (LSg w5 b (fun k => X k ∨ k = g) (L2 ++ [(p, .slice va vn vc)]) [] (.slice (some ⟨g, 0, none⟩) (n + 1) cg) (.slice none 0 0) ∧ Box w5 w.heap.size p (.slice va vn vc)) := hide (by rw [hw5]; exact add_finA (uh HM) (uh H2) (uh HN) (uh HO3) (uh HSUB) (uh HIN))
   have HG5 : Hid (GrownS w w5 X ∧ ∀ k, X k ∨ k = g → X k ∨ w.heap.size ≤ k) := hide (by rw [hw5]; exact add_grownA (uh HM) (uh H2) (uh HG2))
   rw [← hw5]
   clear hw5 d0 z0 e0a e1a e2a e3a e4a e5a e0b e1b e2b e3b e4b e5b c0a d0A z0A HM HO3 HBX1
  rotate_left
  focus
   go_simp
   have HOB : Hid (World.ownsRow (w3.setCell ⟨b, 0, none⟩ (.slice (some ⟨g, 0, none⟩) (n + 1) cg)) (b + 1) 89 6 (.slice (some ⟨g, 0, none⟩) (n + 1) cg) (n + 1) (flatP L2 ++ [.int .i64 0, .string ⟨#[]⟩, .bool false, .int .i64 0, .bool false, .slice none 0 0])) := hide (own_grownS (uh HO3) (sbg _ _ _ _) (fun k hk e => (uh HM).bg ((ownb hk).trans e).symm))
   have t0 := own_cell (j := n * 6) (uh HOB) (zero_at (uh HN) 0)
   have t1 := own_cell (j := n * 6 + 1) (uh HOB) (zero_at (uh HN) 1)
   have t2 := own_cell (j := n * 6 + 2) (uh HOB) (zero_at (uh HN) 2)
   have t3 := own_cell (j := n * 6 + 3) (uh HOB) (zero_at (uh HN) 3)
   have t4 := own_cell (j := n * 6 + 4) (uh HOB) (zero_at (uh HN) 4)
   have t5 := own_cell (j := n * 6 + 5) (uh HOB) (zero_at (uh HN) 5)
   obtain ⟨t0a, t0b⟩ := t0
   obtain ⟨t1a, t1b⟩ := t1
   obtain ⟨t2a, t2b⟩ := t2
   obtain ⟨t3a, t3b⟩ := t3
   obtain ⟨t4a, t4b⟩ := t4
   obtain ⟨t5a, t5b⟩ := t5
   refine hKK.out _ _ (by exact Blk.grownS (uh HM).box (sbg _ _ _ _) (uh HM).qb) (fun hHeld => ?_)
   clear hKK KK
   try go_frame
   refine rd1 9 (fun KK hKK => ?_)
   go_simp
   refine hKK.out _ _ (by exact show Box (T6 (w3.setCell ⟨b, 0, none⟩ (.slice (some ⟨g, 0, none⟩) (n + 1) cg)) g (n * 6) (.int .i64 p.kind) (.string (BA p.text)) (.bool p.quote) (.int .i64 p.op) (.bool p.colon) (.slice va vn vc)) w.heap.size p (.slice va vn vc) from Blk.grownS (Blk.grownS (uh HM).box (sbg _ _ _ _) (uh HM).qb) (T6_grown ..) (uh HM).qg) (fun hHeld => ?_)
   clear hKK KK
   try go_frame
   clear hHeld
   refine wpAnyH_done (by kernel_rfl) ?_ _
   obtain ⟨w5, hw5⟩ : ∃ x, x = (((((((w3.setCell ⟨b, 0, none⟩ (.slice (some ⟨g, 0, none⟩) (n + 1) cg)).setCell ⟨g, n * 6, none⟩ (.int .i64 p.kind)).setCell ⟨g, n * 6 + 1, none⟩ (.string (BA p.text))).setCell ⟨g, n * 6 + 2, none⟩ (.bool p.quote)).setCell ⟨g, n * 6 + 3, none⟩ (.int .i64 p.op)).setCell ⟨g, n * 6 + 4, none⟩ (.bool p.colon)).setCell ⟨g, n * 6 + 5, none⟩ (.slice va vn vc)) := ⟨_, rfl⟩
   have H5 : Hid (LSg w5 b (fun k => X k ∨ k = g) (L2 ++ [(p, .slice va vn vc)]) [] (.slice (some ⟨g, 0, none⟩) (n + 1) cg) (.slice none 0 0) ∧ Box w5 w.heap.size p (.slice va vn vc)) := hide (by rw [hw5]; exact add_finB (uh HM) (uh H2) (uh HN) (uh HO3) (uh HSUB) (uh HIN))
   have HG5 : Hid (GrownS w w5 X ∧ ∀ k, X k ∨ k = g → X k ∨ w.heap.size ≤ k) := hide (by rw [hw5]; exact add_grownB (uh HM) (uh H2) (uh HG2))
   rw [← hw5]
   clear hw5 d0 z0 e0a e1a e2a e3a e4a e5a e0b e1b e2b e3b e4b e5b c0a t0a t1a t2a t3a t4a t5a t0b t1b t2b t3b t4b t5b HM HO3 HBX1 HOB
  rotate_left
 rotate_left 2
 focus
  go_simp
  have c0a : (w2.alloc (.cells #[.int .i64 0, .string ⟨#[]⟩, .bool false, .int .i64 0, .bool false, .slice none 0 0] 89)).cell? ⟨b, 0, none⟩ = some (.slice ad n cap) := cell_alloc c0 _
  have HBX1 : Hid (Box (w2.alloc (.cells #[.int .i64 0, .string ⟨#[]⟩, .bool false, .int .i64 0, .bool false, .slice none 0 0] 89)) w.heap.size p (.slice va vn vc)) := hide (Blk.alloc (uh HBX) _)
  refine hKK.out _ _ (by exact uh HBX1) (fun hHeld => ?_)
  clear hKK KK
  try go_frame
  refine rd1 3 (fun KK hKK => ?_)
  go_simp
  refine hKK.out _ _ (by exact uh HBX1) (fun hHeld => ?_)
  clear hKK KK
  try go_frame
  refine tk 5 (v := ?_) ?_ ?_
  rotate_left
  ·intro w hSw; obtain ⟨s0, s1, s2, s3, s4, s5⟩ := Box.six hSw; go_simp; (try with_reducible rfl)
  go_frame
  refine rd1 7 (fun KK hKK => ?_)
  refine step_append_lies _ (by rfl) _ _ _ (by rfl) (b + 1) 89 iT _ 6 72 und_word hiT hzT0 hzT1 hzT2 rfl (by decide) (.slice ad n cap) n (flatP L2) (by simp [Act.eval]) (own_drew (World.ownsRow.alloc (uh HROW) _)) ⟨w2.heap.size, 0, none⟩ 1 1 [.int .i64 0, .string ⟨#[]⟩, .bool false, .int .i64 0, .bool false, .slice none 0 0] (by simp [Act.eval]) rfl six_cells zero_is (by decide) (by unfold maxLen; omega) (by omega) (by simp; omega) (w2.heap.size + 1) (by simp) ?_
  intro g cg w3 hown3 hgrow hat hlt3
  have HM := hide (add_mid (uh H2) hown3 hgrow hat (uh HBX) (uh HXQ))
  have HO3 := hide hown3
  have d0 : w3.cell? ⟨b, 0, none⟩ = some (.slice ad n cap) := (uh HM).blk.cell 0 rfl
  have z0 : w3.frozen? ⟨b, 0, none⟩ = false := (uh HM).blk.frozen 0
  have e0 := own_cell (j := n * 6) (uh HO3) (zero_at (uh HN) 0)
  have e1 := own_cell (j := n * 6 + 1) (uh HO3) (zero_at (uh HN) 1)
  have e2 := own_cell (j := n * 6 + 2) (uh HO3) (zero_at (uh HN) 2)
  have e3 := own_cell (j := n * 6 + 3) (uh HO3) (zero_at (uh HN) 3)
  have e4 := own_cell (j := n * 6 + 4) (uh HO3) (zero_at (uh HN) 4)
  have e5 := own_cell (j := n * 6 + 5) (uh HO3) (zero_at (uh HN) 5)
  obtain ⟨e0a, e0b⟩ := e0
  obtain ⟨e1a, e1b⟩ := e1
  obtain ⟨e2a, e2b⟩ := e2
  obtain ⟨e3a, e3b⟩ := e3
  obtain ⟨e4a, e4b⟩ := e4
  obtain ⟨e5a, e5b⟩ := e5
  clear hown3 hgrow hat hlt3
  refine hKK.out _ _ (by exact (uh HM).box) (fun hHeld => ?_)
  clear hKK KK
  try go_frame
  refine tk 8 (v := ?_) ?_ ?_
  rotate_left
  ·intro w hSw; obtain ⟨s0, s1, s2, s3, s4, s5⟩ := Box.six hSw; go_simp; (try with_reducible rfl)
  go_frame
  refine tk 10 (v := ?_) ?_ ?_
  rotate_left
  ·intro w hSw; obtain ⟨s0, s1, s2, s3, s4, s5⟩ := Box.six hSw; go_simp; (try with_reducible rfl)
  go_frame
  refine tk 11 (v := ?_) ?_ ?_
  rotate_left
  ·intro w hSw; obtain ⟨s0, s1, s2, s3, s4, s5⟩ := Box.six hSw; go_simp; (try with_reducible rfl)
  go_frame
  refine wpAnyH_ready (rs := [9, 12]) (by kernel_rfl) (by simp) ?_
  refine AllReadyH.cons rfl (fun KK hKK => ?_) (AllReadyH.cons rfl (fun KK hKK => ?_) AllReadyH.nil)
  focus
   go_simp
   have d0A : ((((((w3.setCell ⟨g, n * 6, none⟩ (.int .i64 p.kind)).setCell ⟨g, n * 6 + 1, none⟩ (.string (BA p.text))).setCell ⟨g, n * 6 + 2, none⟩ (.bool p.quote)).setCell ⟨g, n * 6 + 3, none⟩ (.int .i64 p.op)).setCell ⟨g, n * 6 + 4, none⟩ (.bool p.colon)).setCell ⟨g, n * 6 + 5, none⟩ (.slice va vn vc)).cell? ⟨b, 0, none⟩ = some (.slice ad n cap) := Blk.cell (show Blk (T6 w3 g (n * 6) (.int .i64 p.kind) (.string (BA p.text)) (.bool p.quote) (.int .i64 p.op) (.bool p.colon) (.slice va vn vc)) b 158 _ from (uh HM).blk.grownS (T6_grown ..) (uh HM).bg) 0 rfl
   have z0A : ((((((w3.setCell ⟨g, n * 6, none⟩ (.int .i64 p.kind)).setCell ⟨g, n * 6 + 1, none⟩ (.string (BA p.text))).setCell ⟨g, n * 6 + 2, none⟩ (.bool p.quote)).setCell ⟨g, n * 6 + 3, none⟩ (.int .i64 p.op)).setCell ⟨g, n * 6 + 4, none⟩ (.bool p.colon)).setCell ⟨g, n * 6 + 5, none⟩ (.slice va vn vc)).frozen? ⟨b, 0, none⟩ = false := Blk.frozen (show Blk (T6 w3 g (n * 6) (.int .i64 p.kind) (.string (BA p.text)) (.bool p.quote) (.int .i64 p.op) (.bool p.colon) (.slice va vn vc)) b 158 _ from (uh HM).blk.grownS (T6_grown ..) (uh HM).bg) 0
   refine hKK.out _ _ (by exact show Box (T6 w3 g (n * 6) (.int .i64 p.kind) (.string (BA p.text)) (.bool p.quote) (.int .i64 p.op) (.bool p.colon) (.slice va vn vc)) w.heap.size p (.slice va vn vc) from Blk.grownS (uh HM).box (T6_grown ..) (uh HM).qg) (fun hHeld => ?_)
   clear hKK KK
   try go_frame
   refine rd1 12 (fun KK hKK => ?_)
   go_simp
   refine hKK.out _ _ (by exact show Box ((T6 w3 g (n * 6) (.int .i64 p.kind) (.string (BA p.text)) (.bool p.quote) (.int .i64 p.op) (.bool p.colon) (.slice va vn vc)).setCell ⟨b, 0, none⟩ (.slice (some ⟨g, 0, none⟩) (n + 1) cg)) w.heap.size p (.slice va vn vc) from Blk.grownS (Blk.grownS (uh HM).box (T6_grown ..) (uh HM).qg) (sbg _ _ _ _) (uh HM).qb) (fun hHeld => ?_)
   clear hKK KK
   try go_frame
   clear hHeld
   refine wpAnyH_done (by kernel_rfl) ?_ _
   obtain ⟨w5, hw5⟩ : ∃ x, x = (((((((w3.setCell ⟨g, n * 6, none⟩ (.int .i64 p.kind)).setCell ⟨g, n * 6 + 1, none⟩ (.string (BA p.text))).setCell ⟨g, n * 6 + 2, none⟩ (.bool p.quote)).setCell ⟨g, n * 6 + 3, none⟩ (.int .i64 p.op)).setCell ⟨g, n * 6 + 4, none⟩ (.bool p.colon)).setCell ⟨g, n * 6 + 5, none⟩ (.slice va vn vc)).setCell ⟨b, 0, none⟩ (.slice (some ⟨g, 0, none⟩) (n + 1) cg)) := ⟨_, rfl⟩
   have H5 : Hid (LSg w5 b (fun k => X k ∨ k = g) (L2 ++ [(p, .slice va vn vc)]) [] (.slice (some ⟨g, 0, none⟩) (n + 1) cg) (.slice none 0 0) ∧ Box w5 w.heap.size p (.slice va vn vc)) := hide (by rw [hw5]; exact add_finA (uh HM) (uh H2) (uh HN) (uh HO3) (uh HSUB) (uh HIN))
   have HG5 : Hid (GrownS w w5 X ∧ ∀ k, X k ∨ k = g → X k ∨ w.heap.size ≤ k) := hide (by rw [hw5]; exact add_grownA (uh HM) (uh H2) (uh HG2))
   rw [← hw5]
   clear hw5 d0 z0 e0a e1a e2a e3a e4a e5a e0b e1b e2b e3b e4b e5b c0a d0A z0A HM HO3 HBX1
  rotate_left
  focus
   go_simp
   have HOB : Hid (World.ownsRow (w3.setCell ⟨b, 0, none⟩ (.slice (some ⟨g, 0, none⟩) (n + 1) cg)) (b + 1) 89 6 (.slice (some ⟨g, 0, none⟩) (n + 1) cg) (n + 1) (flatP L2 ++ [.int .i64 0, .string ⟨#[]⟩, .bool false, .int .i64 0, .bool false, .slice none 0 0])) := hide (own_grownS (uh HO3) (sbg _ _ _ _) (fun k hk e => (uh HM).bg ((ownb hk).trans e).symm))
   have t0 := own_cell (j := n * 6) (uh HOB) (zero_at (uh HN) 0)
   have t1 := own_cell (j := n * 6 + 1) (uh HOB) (zero_at (uh HN) 1)
   have t2 := own_cell (j := n * 6 + 2) (uh HOB) (zero_at (uh HN) 2)
   have t3 := own_cell (j := n * 6 + 3) (uh HOB) (zero_at (uh HN) 3)
   have t4 := own_cell (j := n * 6 + 4) (uh HOB) (zero_at (uh HN) 4)
   have t5 := own_cell (j := n * 6 + 5) (uh HOB) (zero_at (uh HN) 5)
   obtain ⟨t0a, t0b⟩ := t0
   obtain ⟨t1a, t1b⟩ := t1
   obtain ⟨t2a, t2b⟩ := t2
   obtain ⟨t3a, t3b⟩ := t3
   obtain ⟨t4a, t4b⟩ := t4
   obtain ⟨t5a, t5b⟩ := t5
   refine hKK.out _ _ (by exact Blk.grownS (uh HM).box (sbg _ _ _ _) (uh HM).qb) (fun hHeld => ?_)
   clear hKK KK
   try go_frame
   refine rd1 9 (fun KK hKK => ?_)
   go_simp
   refine hKK.out _ _ (by exact show Box (T6 (w3.setCell ⟨b, 0, none⟩ (.slice (some ⟨g, 0, none⟩) (n + 1) cg)) g (n * 6) (.int .i64 p.kind) (.string (BA p.text)) (.bool p.quote) (.int .i64 p.op) (.bool p.colon) (.slice va vn vc)) w.heap.size p (.slice va vn vc) from Blk.grownS (Blk.grownS (uh HM).box (sbg _ _ _ _) (uh HM).qb) (T6_grown ..) (uh HM).qg) (fun hHeld => ?_)
   clear hKK KK
   try go_frame
   clear hHeld
   refine wpAnyH_done (by kernel_rfl) ?_ _
   obtain ⟨w5, hw5⟩ : ∃ x, x = (((((((w3.setCell ⟨b, 0, none⟩ (.slice (some ⟨g, 0, none⟩) (n + 1) cg)).setCell ⟨g, n * 6, none⟩ (.int .i64 p.kind)).setCell ⟨g, n * 6 + 1, none⟩ (.string (BA p.text))).setCell ⟨g, n * 6 + 2, none⟩ (.bool p.quote)).setCell ⟨g, n * 6 + 3, none⟩ (.int .i64 p.op)).setCell ⟨g, n * 6 + 4, none⟩ (.bool p.colon)).setCell ⟨g, n * 6 + 5, none⟩ (.slice va vn vc)) := ⟨_, rfl⟩
   have H5 : Hid (LSg w5 b (fun k => X k ∨ k = g) (L2 ++ [(p, .slice va vn vc)]) [] (.slice (some ⟨g, 0, none⟩) (n + 1) cg) (.slice none 0 0) ∧ Box w5 w.heap.size p (.slice va vn vc)) := hide (by rw [hw5]; exact add_finB (uh HM) (uh H2) (uh HN) (uh HO3) (uh HSUB) (uh HIN))
   have HG5 : Hid (GrownS w w5 X ∧ ∀ k, X k ∨ k = g → X k ∨ w.heap.size ≤ k) := hide (by rw [hw5]; exact add_grownB (uh HM) (uh H2) (uh HG2))
   rw [← hw5]
   clear hw5 d0 z0 e0a e1a e2a e3a e4a e5a e0b e1b e2b e3b e4b e5b c0a t0a t1a t2a t3a t4a t5a t0b t1b t2b t3b t4b t5b HM HO3 HBX1 HOB
  rotate_left
 rotate_left 2
 all_goals
  cases kv with
  | true =>
    have hkk := uh HKK
    have f1 : w5.cell? ⟨b, 1, none⟩ = some (.slice none 0 0) := (uh H5).1.blk.cell 1 rfl
    have q0 : w5.cell? ⟨w.heap.size, 0, none⟩ = some (.int .i64 p.kind) := (uh H5).2.six.1
    go_wp2_with fail
    refine wp_region_held_drew (S := fun w' => Box w' w.heap.size p (.slice va vn vc)) (by kernel_rfl) (by exact (uh H5).2) (fun hHeld => ?_)
    refine tk 0 (v := ?_) ?_ ?_
    rotate_left
    ·intro w hSw; obtain ⟨s0, s1, s2, s3, s4, s5⟩ := Box.six hSw; go_simp; (try with_reducible rfl)
    go_frame
    refine tk 1 (v := ?_) ?_ ?_
    rotate_left
    ·intro w hSw; obtain ⟨s0, s1, s2, s3, s4, s5⟩ := Box.six hSw; go_simp; (try with_reducible rfl)
    go_frame
    refine tk 2 (v := ?_) ?_ ?_
    rotate_left
    ·intro w hSw; obtain ⟨s0, s1, s2, s3, s4, s5⟩ := Box.six hSw; go_simp; (try with_reducible rfl)
    go_frame
    refine tk 3 (v := ?_) ?_ ?_
    rotate_left
    ·intro w hSw; obtain ⟨s0, s1, s2, s3, s4, s5⟩ := Box.six hSw; go_simp; (try with_reducible rfl)
    go_frame
    refine tk 5 (v := ?_) ?_ ?_
    rotate_left
    ·intro w hSw; obtain ⟨s0, s1, s2, s3, s4, s5⟩ := Box.six hSw; go_simp; (try with_reducible rfl)
    go_frame
    refine tk 6 (v := ?_) ?_ ?_
    rotate_left
    ·intro w hSw; obtain ⟨s0, s1, s2, s3, s4, s5⟩ := Box.six hSw; go_simp; (try with_reducible rfl)
    go_frame
    refine rd1 4 (fun KK hKK => ?_)
    go_simp
    refine hKK.out _ _ (by exact (uh H5).2) (fun hHeld => ?_)
    clear hKK KK
    try go_frame
    refine rd1 7 (fun KK hKK => ?_)
    refine step_append_str (by rfl) _ _ _ _ (by rfl) (b + 1) 5 i0 und_bytes und_str hi hz0 hz1 hz2 (.slice none 0 0) (List.length []) (Lib.byteCells []) (by simp [Act.eval]) (own_drew (uh H5).1.own) (BA p.text) (by simp [Act.eval]) (by have h1 := uh HLT; unfold maxLen; simp at h1 ⊢; omega) (by have h1 := uh HLT; simp at h1 ⊢; omega) (by have h1 := (uh H5).1.blk.lt; simp; omega) ?_
    intro v6 w6 hown6 hgrow6 hat6
    obtain ⟨v6a, v6n, v6c, hv6⟩ := slice_own hown6
    subst hv6
    have H7 := hide ((uh H5).1.setB (w1 := w6) ((gsb (bdr _ 1)).trans (GrownS.of hgrow6 (fun _ e => e))) (own_push (l := []) (c := p.text) (by simp) rfl hown6) hat6)
    have H6X := hide hat6
    have f6 : w6.cell? ⟨b, 1, none⟩ = some (.slice none 0 0) := (Blk.kept (blk_drew (uh H5).1.blk) hgrow6 (own_type (own_drew (uh H5).1.own) (blk_drew (uh H5).1.blk) (by decide))).cell 1 rfl
    have y6 : w6.frozen? ⟨b, 1, none⟩ = false := (Blk.kept (blk_drew (uh H5).1.blk) hgrow6 (own_type (own_drew (uh H5).1.own) (blk_drew (uh H5).1.blk) (by decide))).frozen 1
    have HB6 : Hid (Box w6 w.heap.size p (.slice va vn vc)) := hide (Blk.kept (blk_drew (uh H5).2) hgrow6 (own_type (own_drew (uh H5).1.own) (blk_drew (uh H5).2) (by decide)))
    clear hown6 hgrow6 hat6
    refine hKK.out _ _ (by exact uh HB6) (fun hHeld => ?_)
    clear hKK KK
    try go_frame
    refine tk 8 (v := ?_) ?_ ?_
    rotate_left
    ·intro w hSw; obtain ⟨s0, s1, s2, s3, s4, s5⟩ := Box.six hSw; go_simp; (try with_reducible rfl)
    go_frame
    refine tk 9 (v := ?_) ?_ ?_
    rotate_left
    ·intro w hSw; obtain ⟨s0, s1, s2, s3, s4, s5⟩ := Box.six hSw; go_simp; (try with_reducible rfl)
    go_frame
    refine rd1 10 (fun KK hKK => ?_)
    go_simp
    refine hKK.out _ _ (by exact Blk.grownS (uh HB6) (sbg _ _ _ _) (uh HQB)) (fun hHeld => ?_)
    clear hKK KK
    try go_frame
    clear hHeld
    refine wpAnyH_done (by kernel_rfl) ?_ _
    go_wp2
    refine bodyPost_end (res0 rfl _ _) rfl ?_
    exact ⟨rfl, end_lit (uh HPS) (uh HGO) (uh HKK) (by rw [← uh HPS2]; exact (uh H7).1) (uh HG5).1 (uh HG5).2 (uh H7).2 (uh H6X)⟩
  | false =>
    have hkk := uh HKK
    have q0 : w5.cell? ⟨w.heap.size, 0, none⟩ = some (.int .i64 p.kind) := (uh H5).2.six.1
    go_wp2
    refine bodyPost_end (res0 rfl _ _) rfl ?_
    exact ⟨rfl, end_oth (uh HPS) (uh HGO) (uh HKK) (by rw [← uh HPS2]; exact (uh H5).1) (uh HG5).1 (uh HG5).2⟩
theorem ladd_any (w : World) (b : Nat) (X A : Nat → Prop) (ps : List Prt) (x : Value) (p : Prt) (h : LSt w b X ps) (hx : PV w A x p) (hA : ∀ k, A k → InW b X w k) (hl : ps.length ≤ 100000) (ht : tlen ps + p.text.length ≤ 1000000) :
 Calls Tryz.prog 138 #[.pointer (some ⟨b, 0, none⟩), x] w fun e w' => e = .returned (.tuple #[]) ∧ ∃ X', LSt w' b X' (addP ps p) ∧ GrownS w w' X ∧ ∀ k, X' k → X k ∨ w.heap.size ≤ k := by
 obtain ⟨L, bs, pv, bv, h1, h2, h3⟩ := h
 rcases Bool.eq_false_or_eq_true (goesB L p) with hg | hg
 ·exact ladd_on w b X A L bs ps pv bv x p h1 h2 h3 hx hA hl ht hg
 ·exact ladd_new w b X A L bs ps pv bv x p h1 h2 h3 hx hA hl ht hg
end Go.Proofs.YtojjfdobilkknaaGreatDoor

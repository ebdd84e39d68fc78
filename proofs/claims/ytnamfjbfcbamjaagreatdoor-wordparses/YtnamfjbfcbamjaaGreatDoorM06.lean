/-
  What a part more turns in the list of package word.
  The document's reader of words, in memory: a row of parts, and what is wrong.
-/
import Derived.Test.YtnamfjbfcbamjaaGreatDoorM05

/- What a part more turns in the list of package word. -/
namespace Go.Proofs.YtnamfjbfcbamjaaGreatDoor
open Go.RowKit

/-- The list at block b holds the parts ps; X: what may yet be written. -/
def LSt (w : World) (b : Nat) (X : Nat → Prop) (ps : List Prt) : Prop :=
  ∃ L bs pv bv, LSg w b X L bs pv bv ∧ (setL L bs).map Prod.fst = ps ∧ (litB L = false → bs = [])
theorem LSt.below {w w1 : World} {b : Nat} {X : Nat → Prop} {ps : List Prt} (h : LSt w b X ps) (hb : Below w.heap.size w w1) : LSt w1 b X ps := by
  obtain ⟨L, bs, pv, bv, h1, h2⟩ := h
  exact ⟨L, bs, pv, bv, h1.below hb, h2⟩
theorem slice_own {w : World} {base e n sz : Nat} {v : Value} {xs : List Value} (h : w.ownsRow base e sz v n xs) : ∃ a m c, v = .slice a m c := by
  obtain ⟨_, ⟨hv, _⟩ | ⟨g, cap, cur, hv, _⟩⟩ := h
  · exact ⟨_, _, _, hv⟩
  · exact ⟨_, _, _, hv⟩
theorem setb_grown (w : World) (b j : Nat) (v : Value) : GrownS w (w.setCell ⟨b, j, none⟩ v) (fun k => k = b) := GrownS.of (grown_setCell w ⟨b, j, none⟩ v) (fun k e => by simpa using e)
theorem zero_at {L : List (Prt × Value)} {n : Nat} {z0 z1 z2 z3 z4 z5 : Value} (hn : L.length = n) (j : Nat) : (flatP L ++ [z0, z1, z2, z3, z4, z5])[n * 6 + j]? = [z0, z1, z2, z3, z4, z5][j]? := by
  rw [List.getElem?_append_right (by rw [flatP_len]; omega), flatP_len, hn, Nat.add_sub_cancel_left]
theorem setL_len (L : List (Prt × Value)) (bs : List UInt8) : (setL L bs).length = L.length := by
  unfold setL
  split
  · rfl
  · next x hx =>
    split
    · rw [List.length_append, List.length_dropLast]
      have : L ≠ [] := by intro e; rw [e] at hx; cases hx
      have := List.length_pos_iff.2 this
      simp
      omega
    · rfl

theorem blk_drew {w : World} {b : Nat} {t : TypeId} {cs : Array Value} (h : Blk w b t cs) : Blk w.drew b t cs := h
theorem blk_set0 {w : World} {b : Nat} {t : TypeId} {x y : Value} (h : Blk w b t #[x, y]) (v : Value) : Blk (w.setCell ⟨b, 0, none⟩ v) b t #[v, y] := by
  have := h.set 0 v
  simpa using this
theorem ownb {g n c k : Nat} (h : Value.ownBlock (.slice (some ⟨g, 0, none⟩) n c) = some k) : g = k := by simpa [Value.ownBlock] using h
structure Mid (w2 w3 : World) (b g q : Nat) (X : Nat → Prop) (pv bv : Value) (p : Prt) (v : Value) : Prop where
  bg : b ≠ g
  qg : q ≠ g
  qb : q ≠ b
  blk : Blk w3 b 72 #[pv, bv]
  box : Box w3 q p v
  grown : GrownS w2 w3 (fun k => some k = pv.ownBlock)
  at_ : pv.ownBlock = some g ∨ w2.heap.size ≤ g
theorem add_mid {w2 w3 : World} {b g cap cg n q : Nat} {ad : Option Addr} {X : Nat → Prop} {L2 : List (Prt × Value)} {bv : Value} {p : Prt} {v : Value} {zs : List Value} {o : Obj} (h2 : LSg w2 b X L2 [] (.slice ad n cap) bv) 
    (hown : w3.ownsRow (b + 1) 37 6 (.slice (some ⟨g, 0, none⟩) (n + 1) cg) (n + 1) (flatP L2 ++ zs)) (hgrow : ((w2.alloc o).drew).grownBy w3 (Value.ownBlock (.slice ad n cap))) (hat : Value.ownBlock (.slice ad n cap) = some g ∨ g = w2.heap.size + 1) (hbox : Box w2 q p v) (hq : ¬ X q) :
    Mid w2 w3 b g q X (.slice ad n cap) bv p v := by
  have hgs : GrownS w2 w3 (fun k => some k = Value.ownBlock (.slice ad n cap)) := (GrownS.of (World.grownBy_alloc w2 o none) (by simp)).trans ((grownS_of_below (below_drew _ 1)).trans (GrownS.of hgrow (fun _ e => e)))
  have hat' : Value.ownBlock (.slice ad n cap) = some g ∨ w2.heap.size ≤ g := hat.imp (fun e => e) (fun e => by omega)
  have hpv : some b ≠ Value.ownBlock (.slice ad n cap) := own_type h2.row h2.blk (by decide)
  have hql : q < w2.heap.size := Blk.lt hbox
  refine ⟨?_, ?_, ?_, h2.blk.grownS hgs hpv, Blk.grownS hbox hgs (fun e => hq (h2.xp q e.symm)), hgs, hat'⟩
  · have := (World.ownsRow.lt hown g rfl).1
    omega
  · rcases hat' with e | e
    · intro h; exact hq (by rw [h]; exact h2.xp g e)
    · omega
  · intro h; exact hq (by rw [h]; exact h2.xb)
theorem add_finA {w2 w3 : World} {b g cap cg n q : Nat} {ad : Option Addr} {X A : Nat → Prop} {L2 : List (Prt × Value)} {bv : Value} {p : Prt} {v z0 z1 z2 z3 z4 z5 : Value} (hM : Mid w2 w3 b g q X (.slice ad n cap) bv p v) (h2 : LSg w2 b X L2 [] (.slice ad n cap) bv) (hn : L2.length = n)
    (hown : w3.ownsRow (b + 1) 37 6 (.slice (some ⟨g, 0, none⟩) (n + 1) cg) (n + 1) (flatP L2 ++ [z0, z1, z2, z3, z4, z5])) (hs : WAt w2 A v p.sub) (hA : ∀ k, A k → InW b X w2 k) :
    LSg ((T6 w3 g (n * 6) (.int .i64 p.kind) (.string (BA p.text)) (.bool p.quote) (.int .i64 p.op) (.bool p.colon) v).setCell ⟨b, 0, none⟩ (.slice (some ⟨g, 0, none⟩) (n + 1) cg)) b (fun k => X k ∨ k = g) (L2 ++ [(p, v)]) [] (.slice (some ⟨g, 0, none⟩) (n + 1) cg) bv ∧ Box ((T6 w3 g (n * 6) (.int .i64 p.kind) (.string (BA p.text)) (.bool p.quote) (.int .i64 p.op) (.bool p.colon) v).setCell ⟨b, 0, none⟩ (.slice (some ⟨g, 0, none⟩) (n + 1) cg)) q p v := by
  subst hn
  refine ⟨(h2.push (x := (p, v)) ?_ ?_ hM.at_ ?_ hs hA).1, Blk.grownS (Blk.grownS hM.box (T6_grown ..) hM.qg) (setb_grown _ _ _ _) hM.qb⟩
  · exact blk_set0 (hM.blk.grownS (T6_grown ..) hM.bg) _
  · exact ((hM.grown.mono (fun k _ e => .inr (.inl e))).trans ((T6_grown ..).mono (fun k _ e => .inr (.inr e)))).trans ((setb_grown _ _ _ _).mono (fun k _ e => .inl e))
  · exact own_grownS (T6_own hown (flatP_len L2) ..) (setb_grown _ _ _ _) (fun k hk e => hM.bg ((ownb hk).trans e).symm)
theorem add_finB {w2 w3 : World} {b g cap cg n q : Nat} {ad : Option Addr} {X A : Nat → Prop} {L2 : List (Prt × Value)} {bv : Value} {p : Prt} {v z0 z1 z2 z3 z4 z5 : Value} (hM : Mid w2 w3 b g q X (.slice ad n cap) bv p v) (h2 : LSg w2 b X L2 [] (.slice ad n cap) bv) (hn : L2.length = n)
    (hown : w3.ownsRow (b + 1) 37 6 (.slice (some ⟨g, 0, none⟩) (n + 1) cg) (n + 1) (flatP L2 ++ [z0, z1, z2, z3, z4, z5])) (hs : WAt w2 A v p.sub) (hA : ∀ k, A k → InW b X w2 k) :
    LSg (T6 (w3.setCell ⟨b, 0, none⟩ (.slice (some ⟨g, 0, none⟩) (n + 1) cg)) g (n * 6) (.int .i64 p.kind) (.string (BA p.text)) (.bool p.quote) (.int .i64 p.op) (.bool p.colon) v) b (fun k => X k ∨ k = g) (L2 ++ [(p, v)]) [] (.slice (some ⟨g, 0, none⟩) (n + 1) cg) bv ∧ Box (T6 (w3.setCell ⟨b, 0, none⟩ (.slice (some ⟨g, 0, none⟩) (n + 1) cg)) g (n * 6) (.int .i64 p.kind) (.string (BA p.text)) (.bool p.quote) (.int .i64 p.op) (.bool p.colon) v) q p v := by
  subst hn
  refine ⟨(h2.push (x := (p, v)) ?_ ?_ hM.at_ ?_ hs hA).1, Blk.grownS (Blk.grownS hM.box (setb_grown _ _ _ _) hM.qb) (T6_grown ..) hM.qg⟩
  · exact Blk.grownS (blk_set0 hM.blk _) (T6_grown ..) hM.bg
  · exact ((hM.grown.mono (fun k _ e => .inr (.inl e))).trans ((setb_grown _ _ _ _).mono (fun k _ e => .inl e))).trans ((T6_grown ..).mono (fun k _ e => .inr (.inr e)))
  · exact T6_own (own_grownS hown (setb_grown _ _ _ _) (fun k hk e => hM.bg ((ownb hk).trans e).symm)) (flatP_len L2) ..
theorem mid_x {w w2 w3 : World} {b g q : Nat} {X : Nat → Prop} {L2 : List (Prt × Value)} {pv bv : Value} {p : Prt} {v : Value} (hM : Mid w2 w3 b g q X pv bv p v) (h2 : LSg w2 b X L2 [] pv bv) (hg : GrownS w w2 X) : (GrownS w w3 X) ∧ ∀ k, X k ∨ k = g → X k ∨ w.heap.size ≤ k := by
  refine ⟨hg.trans (hM.grown.mono (fun k _ e => h2.xp k e.symm)), fun k hk => ?_⟩
  rcases hk with hk | hk
  · exact .inl hk
  · subst hk
    rcases hM.at_ with e | e
    · exact .inl (h2.xp _ e)
    · exact .inr (Nat.le_trans hg.size e)
theorem add_grownA {w w2 w3 : World} {b g q n cg : Nat} {X : Nat → Prop} {L2 : List (Prt × Value)} {pv bv x0 x1 x2 x3 x4 x5 : Value} {p : Prt} {v : Value} (hM : Mid w2 w3 b g q X pv bv p v) (h2 : LSg w2 b X L2 [] pv bv) (hg : GrownS w w2 X) :
    GrownS w ((T6 w3 g (n * 6) x0 x1 x2 x3 x4 x5).setCell ⟨b, 0, none⟩ (.slice (some ⟨g, 0, none⟩) (n + 1) cg)) X ∧ ∀ k, X k ∨ k = g → X k ∨ w.heap.size ≤ k := by
  obtain ⟨h3, h4⟩ := mid_x hM h2 hg
  have ht := (T6_grown w3 g (n * 6) x0 x1 x2 x3 x4 x5)
  have hs := (setb_grown (T6 w3 g (n * 6) x0 x1 x2 x3 x4 x5) b 0 (.slice (some ⟨g, 0, none⟩) (n + 1) cg))
  refine ⟨⟨hs.os.trans (ht.os.trans h3.os), hs.tape.trans (ht.tape.trans h3.tape), hs.output.trans (ht.output.trans h3.output), Nat.le_trans h3.size (Nat.le_trans ht.size hs.size), fun k hk hx => ?_⟩, h4⟩
  have hkg : k ≠ g := fun e => by
    rcases h4 k (.inr e) with e' | e'
    · exact hx e'
    · omega
  have hkb : k ≠ b := fun e => hx (by rw [e]; exact h2.xb)
  rw [hs.block k (Nat.lt_of_lt_of_le hk (Nat.le_trans h3.size ht.size)) hkb, ht.block k (Nat.lt_of_lt_of_le hk h3.size) hkg]
  exact h3.block k hk hx
theorem add_grownB {w w2 w3 : World} {b g q n cg : Nat} {X : Nat → Prop} {L2 : List (Prt × Value)} {pv bv x0 x1 x2 x3 x4 x5 : Value} {p : Prt} {v : Value} (hM : Mid w2 w3 b g q X pv bv p v) (h2 : LSg w2 b X L2 [] pv bv) (hg : GrownS w w2 X) :
    GrownS w (T6 (w3.setCell ⟨b, 0, none⟩ (.slice (some ⟨g, 0, none⟩) (n + 1) cg)) g (n * 6) x0 x1 x2 x3 x4 x5) X ∧ ∀ k, X k ∨ k = g → X k ∨ w.heap.size ≤ k := by
  obtain ⟨h3, h4⟩ := mid_x hM h2 hg
  have hs := (setb_grown w3 b 0 (.slice (some ⟨g, 0, none⟩) (n + 1) cg))
  have ht := (T6_grown (w3.setCell ⟨b, 0, none⟩ (.slice (some ⟨g, 0, none⟩) (n + 1) cg)) g (n * 6) x0 x1 x2 x3 x4 x5)
  refine ⟨⟨ht.os.trans (hs.os.trans h3.os), ht.tape.trans (hs.tape.trans h3.tape), ht.output.trans (hs.output.trans h3.output), Nat.le_trans h3.size (Nat.le_trans hs.size ht.size), fun k hk hx => ?_⟩, h4⟩
  have hkg : k ≠ g := fun e => by
    rcases h4 k (.inr e) with e' | e'
    · exact hx e'
    · omega
  have hkb : k ≠ b := fun e => hx (by rw [e]; exact h2.xb)
  rw [ht.block k (Nat.lt_of_lt_of_le hk (Nat.le_trans h3.size hs.size)) hkg, hs.block k (Nat.lt_of_lt_of_le hk h3.size) hkb]
  exact h3.block k hk hx

theorem addP_no {L : List (Prt × Value)} {bs : List UInt8} {p : Prt} (hg : goesB L p = false) : addP ((setL L bs).map Prod.fst) p = (setL L bs).map Prod.fst ++ [p] := by
  by_cases hL : L = []
  · subst hL; rfl
  · obtain ⟨M, y, rfl⟩ := last_ex hL
    unfold goesB at hg
    simp only [List.getLast?_append, List.getLast?_singleton, Option.some_or] at hg
    have key : ∀ y' : Prt × Value, y'.1.kind = y.1.kind → y'.1.quote = y.1.quote → addP ((M ++ [y']).map Prod.fst) p = (M ++ [y']).map Prod.fst ++ [p] := by
      intro y' h1 h2
      obtain ⟨⟨k, t, q, o, c, s⟩, u⟩ := y'
      rw [List.map_append]
      show addP (M.map Prod.fst ++ [.mk k t q o c s]) p = _
      rw [addP_snoc, if_neg]
      · simp
      · rintro ⟨e1, e2, e3⟩
        have e4 : y.1.kind = 1 := by rw [← h1]; exact e1
        have e5 : y.1.quote = p.quote := by rw [← h2]; exact e3
        simp [e4, e5, e2] at hg
    unfold setL
    simp only [List.getLast?_append, List.getLast?_singleton, Option.some_or, List.dropLast_concat]
    split
    · exact key _ rfl rfl
    · exact key _ rfl rfl
theorem end_oth {w w5 : World} {b g : Nat} {X : Nat → Prop} {L : List (Prt × Value)} {bs : List UInt8} {ps : List Prt} {p : Prt} {v pv bv : Value} (hps : (setL L bs).map Prod.fst = ps) (hg : goesB L p = false) (hk : (p.kind == 1) = false) (h5 : LSg w5 b (fun k => X k ∨ k = g) (setL L bs ++ [(p, v)]) [] pv bv) (hG : GrownS w w5 X) (hX : ∀ k, X k ∨ k = g → X k ∨ w.heap.size ≤ k) :
    ∃ X', LSt w5 b X' (addP ps p) ∧ GrownS w w5 X ∧ ∀ k, X' k → X k ∨ w.heap.size ≤ k := by
  refine ⟨_, ⟨_, _, _, _, h5, ?_, fun _ => rfl⟩, hG, hX⟩
  subst hps
  rw [addP_no hg]
  unfold setL
  simp [hk]
theorem GrownS.trans2 {w w1 w2 : World} {S T : Nat → Prop} (h : GrownS w w1 S) (h2 : GrownS w1 w2 T) (hT : ∀ k, k < w.heap.size → T k → S k) : GrownS w w2 S :=
  ⟨h2.os.trans h.os, h2.tape.trans h.tape, h2.output.trans h.output, Nat.le_trans h.size h2.size, fun k hk hn => (h2.block k (Nat.lt_of_lt_of_le hk h.size) (fun e => hn (hT k hk e))).trans (h.block k hk hn)⟩
theorem end_lit {w w5 w7 : World} {b g : Nat} {X : Nat → Prop} {L : List (Prt × Value)} {bs : List UInt8} {ps : List Prt} {p : Prt} {v pv v6 : Value} (hps : (setL L bs).map Prod.fst = ps) (hg : goesB L p = false) (hk : (p.kind == 1) = true) (h7 : LSg w7 b (fun k => (X k ∨ k = g) ∨ v6.ownBlock = some k) (setL L bs ++ [(p, v)]) ([] ++ p.text) pv v6) (hG : GrownS w w5 X) (hX : ∀ k, X k ∨ k = g → X k ∨ w.heap.size ≤ k) (h57 : GrownS w5 w7 (fun k => X k ∨ k = g)) (h6 : ∀ k, v6.ownBlock = some k → Value.ownBlock (.slice none 0 0) = some k ∨ w5.heap.size ≤ k) :
    ∃ X', LSt w7 b X' (addP ps p) ∧ GrownS w w7 X ∧ ∀ k, X' k → X k ∨ w.heap.size ≤ k := by
  refine ⟨_, ⟨_, _, _, _, h7, ?_, fun e => ?_⟩, hG.trans2 h57 (fun k hk e => ?_), fun k hk' => ?_⟩
  · subst hps
    rw [addP_no hg]
    unfold setL
    simp only [List.getLast?_append, List.getLast?_singleton, Option.some_or, hk, if_true, List.dropLast_concat, List.map_append]
    congr 1
    obtain ⟨k, t, q, o, c, s⟩ := p
    rfl
  · unfold litB at e
    simp [hk] at e
  · rcases hX k e with e | e
    · exact e
    · omega
  · rcases hk' with e | e
    · exact hX k e
    · rcases h6 k e with e | e
      · cases e
      · exact .inr (Nat.le_trans hG.size e)
theorem end_on {w w2 w7 : World} {b : Nat} {X : Nat → Prop} {L : List (Prt × Value)} {bs : List UInt8} {ps : List Prt} {p : Prt} {pv bv v6 : Value} (hps : (setL L bs).map Prod.fst = ps) (hg : goesB L p = true) (hbv : ∀ k, bv.ownBlock = some k → X k) (h7 : LSg w7 b (fun k => X k ∨ v6.ownBlock = some k) L (bs ++ p.text) pv v6) (hG : GrownS w w2 X) (h57 : GrownS w2 w7 X) (h6 : ∀ k, v6.ownBlock = some k → bv.ownBlock = some k ∨ w2.heap.size ≤ k) :
    ∃ X', LSt w7 b X' (addP ps p) ∧ GrownS w w7 X ∧ ∀ k, X' k → X k ∨ w.heap.size ≤ k := by
  have hL : L ≠ [] := by
    intro e
    rw [e] at hg
    cases hg
  obtain ⟨M, y, rfl⟩ := last_ex hL
  unfold goesB at hg
  simp only [List.getLast?_append, List.getLast?_singleton, Option.some_or, Bool.and_eq_true, beq_iff_eq] at hg
  obtain ⟨hk, hy, hq⟩ := hg
  refine ⟨_, ⟨_, _, _, _, h7, ?_, fun e => ?_⟩, hG.trans h57, fun k hk' => ?_⟩
  · subst hps
    unfold setL
    simp only [List.getLast?_append, List.getLast?_singleton, Option.some_or, hy, beq_self_eq_true, if_true, List.dropLast_concat, List.map_append, List.map_cons, List.map_nil]
    unfold setT
    simp only
    rw [addP_snoc, if_pos ⟨hy, hk, hq⟩]
  · unfold litB at e
    simp [hy] at e
  · rcases hk' with e | e
    · exact .inl e
    · rcases h6 k e with e | e
      · exact .inl (hbv k e)
      · exact .inr (Nat.le_trans hG.size e)
theorem bs_len {L : List (Prt × Value)} {bs : List UInt8} {ps : List Prt} (hps : (setL L bs).map Prod.fst = ps) (hb : litB L = false → bs = []) : bs.length ≤ tlen ps := by
  by_cases hL : L = []
  · subst hL
    rw [hb rfl]
    simp
  · obtain ⟨M, y, rfl⟩ := last_ex hL
    rcases Bool.eq_false_or_eq_true (y.1.kind == 1) with hk | hk
    · subst hps
      unfold setL
      simp only [List.getLast?_append, List.getLast?_singleton, Option.some_or, hk, if_true, List.dropLast_concat, List.map_append, List.map_cons, List.map_nil]
      rw [tlen_snoc]
      show bs.length ≤ _ + bs.length
      omega
    · rw [hb (by unfold litB; simp [hk])]
      simp


end Go.Proofs.YtnamfjbfcbamjaaGreatDoor

/- The document's reader of words, in memory: a row of parts, and what is wrong. -/
namespace Go.Proofs.YtnamfjbfcbamjaaGreatDoor
open Go.RowKit

/-- The reader at block b: its parts as they lie there; X: what may yet be written. -/
structure RWg (w : World) (b : Nat) (X : Nat → Prop) (L : List (Prt × Value)) (pv : Value) (er : Int) : Prop where
  blk : Blk w b 59 #[pv, .int .i64 er]
  row : w.ownsRow (b + 1) 37 6 pv L.length (flatP L)
  sub : ∀ x ∈ L, WAt w (InW b X w) x.2 x.1.sub
  xb : X b
  xp : ∀ k, pv.ownBlock = some k → X k
  lo : ∀ k, X k → b ≤ k
  hi : ∀ k, X k → k < w.heap.size
theorem RWg.below {w w1 : World} {b : Nat} {X : Nat → Prop} {L : List (Prt × Value)} {pv : Value} {er : Int} (h : RWg w b X L pv er) (hb : Below w.heap.size w w1) : RWg w1 b X L pv er := by
  have hg : GrownS w w1 (fun _ => False) := grownS_of_below hb
  exact ⟨h.blk.grownS hg (fun e => e), own_grownS h.row hg (fun _ _ e => e), fun x hx => (h.sub x hx).kept (fun k hk => hb.block k hk.2.1) (fun k hk => ⟨hk.1, Nat.lt_of_lt_of_le hk.2.1 hb.size, hk.2.2⟩), h.xb, h.xp, h.lo, fun k hk => Nat.lt_of_lt_of_le (h.hi k hk) hb.size⟩
/-- The reader holds the parts ps. -/
def RWt (w : World) (b : Nat) (X : Nat → Prop) (ps : List Prt) (er : Int) : Prop := ∃ L pv, RWg w b X L pv er ∧ L.map Prod.fst = ps
theorem RWt.below {w w1 : World} {b : Nat} {X : Nat → Prop} {ps : List Prt} {er : Int} (h : RWt w b X ps er) (hb : Below w.heap.size w w1) : RWt w1 b X ps er := by
  obtain ⟨L, pv, h1, h2⟩ := h
  exact ⟨L, pv, h1.below hb, h2⟩
theorem RWt.lt {w : World} {b : Nat} {X : Nat → Prop} {ps : List Prt} {er : Int} (h : RWt w b X ps er) : b < w.heap.size := by
  obtain ⟨L, pv, h1, _⟩ := h
  exact h1.blk.lt
theorem RWt.lo {w : World} {b : Nat} {X : Nat → Prop} {ps : List Prt} {er : Int} (h : RWt w b X ps er) : ∀ k, X k → b ≤ k := by
  obtain ⟨L, pv, h1, _⟩ := h
  exact h1.lo
theorem RWt.hi {w : World} {b : Nat} {X : Nat → Prop} {ps : List Prt} {er : Int} (h : RWt w b X ps er) : ∀ k, X k → k < w.heap.size := by
  obtain ⟨L, pv, h1, _⟩ := h
  exact h1.hi
/-- The reader has become ps. -/
def RAdds (w : World) (b : Nat) (X : Nat → Prop) (ps : List Prt) (er : Int) (w' : World) : Prop := ∃ X', RWt w' b X' ps er ∧ GrownS w w' X ∧ ∀ k, X' k → X k ∨ w.heap.size ≤ k
theorem RAdds.trans {w w1 w2 : World} {b : Nat} {X X1 : Nat → Prop} {ps : List Prt} {er : Int} (hg : GrownS w w1 X) (hx : ∀ k, X1 k → X k ∨ w.heap.size ≤ k) (h2 : RAdds w1 b X1 ps er w2) : RAdds w b X ps er w2 := by
  obtain ⟨X2, h3, h4, h5⟩ := h2
  refine ⟨X2, h3, ⟨h4.os.trans hg.os, h4.tape.trans hg.tape, h4.output.trans hg.output, Nat.le_trans hg.size h4.size, fun k hk hn => ?_⟩, fun k hk => ?_⟩
  · rw [h4.block k (Nat.lt_of_lt_of_le hk hg.size) (fun e => by
      rcases hx k e with e | e
      · exact hn e
      · omega)]
    exact hg.block k hk hn
  · rcases h5 k hk with e | e
    · exact hx k e
    · exact .inr (Nat.le_trans hg.size e)
theorem RAdds.of_below {w w1 w2 : World} {b : Nat} {X : Nat → Prop} {ps : List Prt} {er : Int} (hb : Below w.heap.size w w1) (h2 : RAdds w1 b X ps er w2) : RAdds w b X ps er w2 := RAdds.trans (grownS_of_below hb) (fun _ h => .inl h) h2
theorem RAdds.below {w w1 w2 : World} {b : Nat} {X : Nat → Prop} {ps : List Prt} {er : Int} (h : RAdds w b X ps er w1) (hb : Below w1.heap.size w1 w2) : RAdds w b X ps er w2 := by
  obtain ⟨X', h1, h2, h3⟩ := h
  exact ⟨X', h1.below hb, h2.trans (grownS_of_below hb), h3⟩
theorem RAdds.refl {w : World} {b : Nat} {X : Nat → Prop} {ps : List Prt} {er : Int} (h : RWt w b X ps er) : RAdds w b X ps er w := ⟨X, h, grownS_of_below (Below.refl _ _), fun _ h => .inl h⟩
theorem RAdds.then {w w1 w2 : World} {b : Nat} {X : Nat → Prop} {ps qs : List Prt} {er er' : Int} (h : RAdds w b X ps er w1) (h2 : ∀ X1, RWt w1 b X1 ps er → RAdds w1 b X1 qs er' w2) : RAdds w b X qs er' w2 := by
  obtain ⟨X1, h3, h4, h5⟩ := h
  exact RAdds.trans h4 h5 (h2 X1 h3)
/-- 'r.E = e'. -/
theorem RWt.err {w : World} {b : Nat} {X : Nat → Prop} {ps : List Prt} {er : Int} (h : RWt w b X ps er) (e : Int) : w.cell? ⟨b, 1, none⟩ = some (.int .i64 er) ∧ w.frozen? ⟨b, 1, none⟩ = false ∧ RAdds w b X ps e (w.setCell ⟨b, 1, none⟩ (.int .i64 e)) := by
  obtain ⟨L, pv, h1, h2⟩ := h
  have gs := setb_grown w b 1 (.int .i64 e)
  refine ⟨h1.blk.cell 1 rfl, h1.blk.frozen 1, X, ⟨L, pv, ⟨?_, own_grownS h1.row gs (fun k hk e => own_type h1.row h1.blk (by decide) (by rw [← e]; exact hk.symm)), fun x hx => (h1.sub x hx).kept (fun k hk => gs.block k hk.2.1 (fun e => hk.2.2 (by rw [e]; exact h1.xb))) (fun k hk => ⟨hk.1, Nat.lt_of_lt_of_le hk.2.1 gs.size, hk.2.2⟩), h1.xb, h1.xp, h1.lo, fun k hk => Nat.lt_of_lt_of_le (h1.hi k hk) gs.size⟩, h2⟩, gs.mono (fun k _ e => by rw [e]; exact h1.xb), fun _ h => .inl h⟩
  have := h1.blk.set 1 (.int .i64 e)
  simpa using this
/-- One part more, behind the append and the stores. -/
theorem RWg.push {w wf : World} {b g cap : Nat} {X A : Nat → Prop} {L : List (Prt × Value)} {pv : Value} {er : Int} {x : Prt × Value} (h : RWg w b X L pv er) (hb : Blk wf b 59 #[.slice (some ⟨g, 0, none⟩) (L.length + 1) cap, .int .i64 er]) (hg : GrownS w wf (fun k => k = b ∨ some k = pv.ownBlock ∨ k = g)) (hat : pv.ownBlock = some g ∨ w.heap.size ≤ g)
    (ho : wf.ownsRow (b + 1) 37 6 (.slice (some ⟨g, 0, none⟩) (L.length + 1) cap) (L.length + 1) (flatP L ++ pcs x)) (hx : WAt w A x.2 x.1.sub) (hA : ∀ k, A k → InW b X w k) :
    RWg wf b (fun k => X k ∨ k = g) (L ++ [x]) (.slice (some ⟨g, 0, none⟩) (L.length + 1) cap) er ∧ GrownS w wf X := by
  have gx : GrownS w wf X := hg.mono (fun k hk e => by
    rcases e with e | e | e
    · rw [e]; exact h.xb
    · exact h.xp k e.symm
    · rcases hat with e' | e'
      · rw [e]; exact h.xp g e'
      · omega)
  have hin : ∀ k, InW b X w k → InW b (fun k => X k ∨ k = g) wf k := fun k hk => ⟨hk.1, Nat.lt_of_lt_of_le hk.2.1 gx.size, fun e => by
    rcases e with e | e
    · exact hk.2.2 e
    · rcases hat with e' | e'
      · exact hk.2.2 (by rw [e]; exact h.xp g e')
      · have := hk.2.1; omega⟩
  refine ⟨⟨hb, ?_, ?_, .inl h.xb, fun k hk => ?_, ?_, ?_⟩, gx⟩
  · rw [flatP_snoc, List.length_append]
    exact ho
  · intro y hy
    rcases List.mem_append.1 hy with hy | hy
    · exact (h.sub y hy).kept (fun k hk => gx.block k hk.2.1 hk.2.2) hin
    · simp at hy
      subst hy
      exact hx.kept (fun k hk => gx.block k (hA k hk).2.1 (hA k hk).2.2) (fun k hk => hin k (hA k hk))
  · exact .inr (ownb hk).symm
  · intro k hk
    rcases hk with hk | hk
    · exact h.lo k hk
    · subst hk
      rcases hat with e | e
      · exact h.lo k (h.xp k e)
      · have := h.blk.lt; omega
  · intro k hk
    rcases hk with hk | hk
    · exact Nat.lt_of_lt_of_le (h.hi k hk) gx.size
    · subst hk
      exact (World.ownsRow.lt ho k rfl).2
/-- The last part's text is longer. -/
theorem RWg.more {w : World} {b g cap n : Nat} {X : Nat → Prop} {M : List (Prt × Value)} {k : Int} {t t' : List UInt8} {q c : Bool} {o er : Int} {s : List Prt} {v : Value} (h : RWg w b X (M ++ [(.mk k t q o c s, v)]) (.slice (some ⟨g, 0, none⟩) n cap) er) (hn : n = M.length + 1) :
    RWg (w.setCell ⟨g, M.length * 6 + 1, none⟩ (.string (BA t'))) b X (M ++ [(.mk k t' q o c s, v)]) (.slice (some ⟨g, 0, none⟩) n cap) er ∧ GrownS w (w.setCell ⟨g, M.length * 6 + 1, none⟩ (.string (BA t'))) X := by
  subst hn
  have gs := setb_grown w g (M.length * 6 + 1) (.string (BA t'))
  have hgX : X g := h.xp g rfl
  have hgb : g ≠ b := fun e => own_type h.row h.blk (by decide) (by rw [← e]; rfl)
  have gx : GrownS w (w.setCell ⟨g, M.length * 6 + 1, none⟩ (.string (BA t'))) X := gs.mono (fun k _ e => by rw [e]; exact hgX)
  have hs : ∀ y, WAt w (InW b X w) y.2 y.1.sub → WAt (w.setCell ⟨g, M.length * 6 + 1, none⟩ (.string (BA t'))) (InW b X (w.setCell ⟨g, M.length * 6 + 1, none⟩ (.string (BA t')))) (y : Prt × Value).2 y.1.sub := fun y hy => hy.kept (fun k hk => gx.block k hk.2.1 hk.2.2) (fun k hk => ⟨hk.1, Nat.lt_of_lt_of_le hk.2.1 gx.size, hk.2.2⟩)
  refine ⟨⟨h.blk.grownS gs hgb.symm, ?_, ?_, h.xb, h.xp, h.lo, fun k hk => Nat.lt_of_lt_of_le (h.hi k hk) gx.size⟩, gx⟩
  · have h1 := h.row
    rw [List.length_append] at h1
    have := own_set h1 (M.length * 6 + 1) (.string (BA t'))
    rw [List.length_append, flatP_snoc]
    rw [flatP_snoc, List.set_append_right _ _ (by rw [flatP_len]; omega), flatP_len, Nat.add_sub_cancel_left] at this
    exact this
  · intro y hy
    rcases List.mem_append.1 hy with hy | hy
    · exact hs y (h.sub y (List.mem_append_left _ hy))
    · simp at hy
      subst hy
      exact hs (.mk k t q o c s, v) (h.sub _ (List.mem_append_right _ (by simp)))

structure RMid (w2 w3 : World) (b g q : Nat) (X : Nat → Prop) (pv : Value) (er : Int) (p : Prt) (v : Value) : Prop where
  bg : b ≠ g
  qg : q ≠ g
  qb : q ≠ b
  blk : Blk w3 b 59 #[pv, .int .i64 er]
  box : Box w3 q p v
  grown : GrownS w2 w3 (fun k => some k = pv.ownBlock)
  at_ : pv.ownBlock = some g ∨ w2.heap.size ≤ g
theorem radd_mid {w2 w3 : World} {b g cap cg n q : Nat} {ad : Option Addr} {X : Nat → Prop} {L2 : List (Prt × Value)} {er : Int} {p : Prt} {v : Value} {zs : List Value} {o : Obj} (h2 : RWg w2 b X L2 (.slice ad n cap) er) 
    (hown : w3.ownsRow (b + 1) 37 6 (.slice (some ⟨g, 0, none⟩) (n + 1) cg) (n + 1) (flatP L2 ++ zs)) (hgrow : ((w2.alloc o).drew).grownBy w3 (Value.ownBlock (.slice ad n cap))) (hat : Value.ownBlock (.slice ad n cap) = some g ∨ g = w2.heap.size + 1) (hbox : Box w2 q p v) (hq : ¬ X q) :
    RMid w2 w3 b g q X (.slice ad n cap) er p v := by
  have hgs : GrownS w2 w3 (fun k => some k = Value.ownBlock (.slice ad n cap)) := (GrownS.of (World.grownBy_alloc w2 o none) (by simp)).trans ((grownS_of_below (below_drew _ 1)).trans (GrownS.of hgrow (fun _ e => e)))
  have hat' : Value.ownBlock (.slice ad n cap) = some g ∨ w2.heap.size ≤ g := hat.imp (fun e => e) (fun e => by omega)
  have hpv : some b ≠ Value.ownBlock (.slice ad n cap) := own_type h2.row h2.blk (by decide)
  have hql : q < w2.heap.size := Blk.lt hbox
  refine ⟨?_, ?_, ?_, h2.blk.grownS hgs hpv, Blk.grownS hbox hgs (fun e => hq (h2.xp q e.symm)), hgs, hat'⟩
  · have := (World.ownsRow.lt hown g rfl).1
    omega
  · rcases hat' with e | e
    · intro h; exact hq (by rw [h]; exact h2.xp g e)
    · omega
  · intro h; exact hq (by rw [h]; exact h2.xb)
theorem radd_finA {w2 w3 : World} {b g cap cg n q : Nat} {ad : Option Addr} {X A : Nat → Prop} {L2 : List (Prt × Value)} {er : Int} {p : Prt} {v z0 z1 z2 z3 z4 z5 : Value} (hM : RMid w2 w3 b g q X (.slice ad n cap) er p v) (h2 : RWg w2 b X L2 (.slice ad n cap) er) (hn : L2.length = n)
    (hown : w3.ownsRow (b + 1) 37 6 (.slice (some ⟨g, 0, none⟩) (n + 1) cg) (n + 1) (flatP L2 ++ [z0, z1, z2, z3, z4, z5])) (hs : WAt w2 A v p.sub) (hA : ∀ k, A k → InW b X w2 k) :
    RWg ((T6 w3 g (n * 6) (.int .i64 p.kind) (.string (BA p.text)) (.bool p.quote) (.int .i64 p.op) (.bool p.colon) v).setCell ⟨b, 0, none⟩ (.slice (some ⟨g, 0, none⟩) (n + 1) cg)) b (fun k => X k ∨ k = g) (L2 ++ [(p, v)]) (.slice (some ⟨g, 0, none⟩) (n + 1) cg) er ∧ GrownS w2 ((T6 w3 g (n * 6) (.int .i64 p.kind) (.string (BA p.text)) (.bool p.quote) (.int .i64 p.op) (.bool p.colon) v).setCell ⟨b, 0, none⟩ (.slice (some ⟨g, 0, none⟩) (n + 1) cg)) X := by
  subst hn
  refine h2.push (x := (p, v)) ?_ ?_ hM.at_ ?_ hs hA
  · exact blk_set0 (hM.blk.grownS (T6_grown ..) hM.bg) _
  · exact ((hM.grown.mono (fun k _ e => .inr (.inl e))).trans ((T6_grown ..).mono (fun k _ e => .inr (.inr e)))).trans ((setb_grown _ _ _ _).mono (fun k _ e => .inl e))
  · exact own_grownS (T6_own hown (flatP_len L2) ..) (setb_grown _ _ _ _) (fun k hk e => hM.bg ((ownb hk).trans e).symm)
theorem radd_finB {w2 w3 : World} {b g cap cg n q : Nat} {ad : Option Addr} {X A : Nat → Prop} {L2 : List (Prt × Value)} {er : Int} {p : Prt} {v z0 z1 z2 z3 z4 z5 : Value} (hM : RMid w2 w3 b g q X (.slice ad n cap) er p v) (h2 : RWg w2 b X L2 (.slice ad n cap) er) (hn : L2.length = n)
    (hown : w3.ownsRow (b + 1) 37 6 (.slice (some ⟨g, 0, none⟩) (n + 1) cg) (n + 1) (flatP L2 ++ [z0, z1, z2, z3, z4, z5])) (hs : WAt w2 A v p.sub) (hA : ∀ k, A k → InW b X w2 k) :
    RWg (T6 (w3.setCell ⟨b, 0, none⟩ (.slice (some ⟨g, 0, none⟩) (n + 1) cg)) g (n * 6) (.int .i64 p.kind) (.string (BA p.text)) (.bool p.quote) (.int .i64 p.op) (.bool p.colon) v) b (fun k => X k ∨ k = g) (L2 ++ [(p, v)]) (.slice (some ⟨g, 0, none⟩) (n + 1) cg) er ∧ GrownS w2 (T6 (w3.setCell ⟨b, 0, none⟩ (.slice (some ⟨g, 0, none⟩) (n + 1) cg)) g (n * 6) (.int .i64 p.kind) (.string (BA p.text)) (.bool p.quote) (.int .i64 p.op) (.bool p.colon) v) X := by
  subst hn
  refine h2.push (x := (p, v)) ?_ ?_ hM.at_ ?_ hs hA
  · exact Blk.grownS (blk_set0 hM.blk _) (T6_grown ..) hM.bg
  · exact ((hM.grown.mono (fun k _ e => .inr (.inl e))).trans ((setb_grown _ _ _ _).mono (fun k _ e => .inl e))).trans ((T6_grown ..).mono (fun k _ e => .inr (.inr e)))
  · exact T6_own (own_grownS hown (setb_grown _ _ _ _) (fun k hk e => hM.bg ((ownb hk).trans e).symm)) (flatP_len L2) ..
theorem rmid_x {w2 w3 : World} {b g q : Nat} {X : Nat → Prop} {L2 : List (Prt × Value)} {pv : Value} {er : Int} {p : Prt} {v : Value} (hM : RMid w2 w3 b g q X pv er p v) (h2 : RWg w2 b X L2 pv er) : ∀ k, X k ∨ k = g → X k ∨ w2.heap.size ≤ k := by
  intro k hk
  rcases hk with hk | hk
  · exact .inl hk
  · subst hk
    rcases hM.at_ with e | e
    · exact .inl (h2.xp _ e)
    · exact .inr e

end Go.Proofs.YtnamfjbfcbamjaaGreatDoor

/-
  Package word's page: put, sign.
  A plain Var in quotes is written: the chapter's example of Print.
-/
import Derived.Test.YtnamfjbfcbamjaaGreatDoorM19
import Derived.Test.YtnamfjbfcbamjaaGreatDoorM22

/- Package word's page: put, sign. -/
namespace Go.Proofs.YtnamfjbfcbamjaaGreatDoor
open Go.RowKit

/-- The page at block b holds the bytes l; X: what may yet be written. -/
def Pg (w : World) (b : Nat) (X : Nat → Prop) (l : List UInt8) : Prop :=
  ∃ bv, Blk w b 67 #[bv] ∧ OwnB w (b + 1) bv l ∧ X b ∧ (∀ k, bv.ownBlock = some k → X k) ∧ (∀ k, X k → b ≤ k) ∧ ∀ k, X k → k < w.heap.size
theorem Pg.below {w w1 : World} {b : Nat} {X : Nat → Prop} {l : List UInt8} (h : Pg w b X l) (hb : Below w.heap.size w w1) : Pg w1 b X l := by
  obtain ⟨bv, h1, h2, h3, h4, h5, h6⟩ := h
  have hg : GrownS w w1 (fun _ => False) := grownS_of_below hb
  exact ⟨bv, h1.grownS hg (fun e => e), own_grownS h2 hg (fun _ _ e => e), h3, h4, h5, fun k hk => Nat.lt_of_lt_of_le (h6 k hk) hb.size⟩
theorem Pg.lt {w : World} {b : Nat} {X : Nat → Prop} {l : List UInt8} (h : Pg w b X l) : b < w.heap.size := by
  obtain ⟨bv, h1, _⟩ := h
  exact h1.lt
theorem Pg.hi {w : World} {b : Nat} {X : Nat → Prop} {l : List UInt8} (h : Pg w b X l) : ∀ k, X k → k < w.heap.size := by
  obtain ⟨bv, h1, h2, h3, h4, h5, h6⟩ := h
  exact h6
theorem Pg.lo {w : World} {b : Nat} {X : Nat → Prop} {l : List UInt8} (h : Pg w b X l) : ∀ k, X k → b ≤ k := by
  obtain ⟨bv, h1, h2, h3, h4, h5, h6⟩ := h
  exact h5
/-- The page has become l. -/
def Puts (w : World) (b : Nat) (X : Nat → Prop) (l : List UInt8) (w' : World) : Prop := ∃ X', Pg w' b X' l ∧ GrownS w w' X ∧ ∀ k, X' k → X k ∨ w.heap.size ≤ k
theorem Puts.trans {w w1 w2 : World} {b : Nat} {X X1 : Nat → Prop} {l : List UInt8} (hg : GrownS w w1 X) (hx : ∀ k, X1 k → X k ∨ w.heap.size ≤ k) (h2 : Puts w1 b X1 l w2) : Puts w b X l w2 := by
  obtain ⟨X2, h3, h4, h5⟩ := h2
  refine ⟨X2, h3, hg.trans2 h4 (fun k hk e => ?_), fun k hk => ?_⟩
  · rcases hx k e with e | e
    · exact e
    · omega
  · rcases h5 k hk with e | e
    · exact hx k e
    · exact .inr (Nat.le_trans hg.size e)
theorem Puts.of_below {w w1 w2 : World} {b : Nat} {X : Nat → Prop} {l : List UInt8} (hb : Below w.heap.size w w1) (h2 : Puts w1 b X l w2) : Puts w b X l w2 := Puts.trans (grownS_of_below hb) (fun _ h => .inl h) h2
theorem Puts.refl {w : World} {b : Nat} {X : Nat → Prop} {l : List UInt8} (h : Pg w b X l) : Puts w b X l w := ⟨X, h, grownS_of_below (Below.refl _ _), fun _ h => .inl h⟩

theorem wpList_append_str {P : Program} {w : World} {ops : Array Oper} {rest : List Oper} {o : Oper} {a : Act} {Q : Exit → Act → World → Prop} (hgd : o.guard = none) (sl x : Operand) (t u : TypeId)
    (ho : o.op = .call { callee := .builtin .append, args := #[sl, x], argTypes := #[t, u] })
    (base : Nat) (e : TypeId) (i : TypeInfo) (ht : P.underlying t = some (.slice e)) (hu : P.underlying u = some .string) (hi : P.info? e = some i) (hz : i.zero = some (.int .u8 0))
    (hsize : i.size = 1) (hby : i.bytes = 1)
    (v : Value) (n : Nat) (xs : List Value) (hs : a.eval sl = v) (hown : w.ownsRow base e 1 v n xs) (s : ByteArray) (hx : a.eval x = .string s)
    (h63 : n + s.size ≤ maxLen) (hbytes : n + s.size ≤ 140737488355328) (hbase : base ≤ w.heap.size)
    (h : ∀ v' w', w'.ownsRow base e 1 v' (n + s.size) (xs ++ Lib.strCells s) → w.grownBy w' v.ownBlock → (∀ k, v'.ownBlock = some k → v.ownBlock = some k ∨ w.heap.size ≤ k) → wpList P ops Q rest (a.put o.dst v') w') : wpList P ops Q (o :: rest) a w := by
  refine wpList_plain hgd fun K hK => ?_
  obtain ⟨v', w', hr, h2, h3, h4⟩ := Lib.run_append_own_string (P := P) w base t u o.type e i ht hu hi hz hsize hby v n xs hown s h63 hbytes hbase
  have h5 := append_str_at (P := P) w base t u o.type e i ht hu hi hz hsize hby v n xs hown s h63 hbytes hr
  unfold Oper.wp execOp
  simp only [ho, resolve, invoke, builtin, Sem.run_bind, Sem.run_pure, Result.andThen_ok, List.map_toArray, List.map_cons, List.map_nil, hs, hx, hr]
  exact hK _ _ (h v' w' h2 h3 h5)
/-- Behind the append and the store. -/
theorem pg_step {w w1 : World} {b : Nat} {X : Nat → Prop} {bv v' : Value} {l t : List UInt8} (h1 : Blk w b 67 #[bv]) (h2 : OwnB w (b + 1) bv l) (h3 : X b) (h4 : ∀ k, bv.ownBlock = some k → X k) (h5 : ∀ k, X k → b ≤ k) (h6 : ∀ k, X k → k < w.heap.size)
    (hown : w1.ownsRow (b + 1) 5 1 v' (l.length + (BA t).size) (Lib.byteCells l ++ Lib.strCells (BA t))) (hg : w.grownBy w1 bv.ownBlock) (hat : ∀ k, v'.ownBlock = some k → bv.ownBlock = some k ∨ w.heap.size ≤ k) :
    w1.cell? ⟨b, 0, none⟩ = some bv ∧ w1.frozen? ⟨b, 0, none⟩ = false ∧ Puts w b X (l ++ t) (w1.setCell ⟨b, 0, none⟩ v') := by
  have hbv : some b ≠ bv.ownBlock := own_type h2 h1 (by decide)
  have g1 : GrownS w w1 (fun k => some k = bv.ownBlock) := GrownS.of hg (fun _ e => e)
  have k1 := h1.grownS g1 hbv
  have ho : OwnB w1 (b + 1) v' (l ++ t) := own_push (by simp) rfl hown
  have gs := setb_grown w1 b 0 v'
  refine ⟨k1.cell 0 rfl, k1.frozen 0, fun k => X k ∨ v'.ownBlock = some k, ⟨v', ?_, own_grownS ho gs (fun k hk e => own_type ho k1 (by decide) (by rw [← e]; exact hk.symm)), .inl h3, fun k hk => .inr hk, ?_, ?_⟩, ?_, ?_⟩
  · have := k1.set 0 v'
    simpa using this
  · intro k hk
    rcases hk with hk | hk
    · exact h5 k hk
    · have := (World.ownsRow.lt ho k hk).1; omega
  · intro k hk
    rcases hk with hk | hk
    · have h7 := h6 k hk; have h8 := hg.size; simp; omega
    · have := (World.ownsRow.lt ho k hk).2; simpa using this
  · exact (g1.mono (fun k _ e => h4 k e.symm)).trans (gs.mono (fun k _ e => by rw [e]; exact h3))
  · intro k hk
    rcases hk with hk | hk
    · exact .inl hk
    · exact (hat k hk).imp (h4 k) (fun e => e)

set_option maxRecDepth 20000 in
set_option maxHeartbeats 4000000 in
theorem put_any (t : List UInt8) (w : World) (b q : Nat) (X : Nat → Prop) (l : List UInt8) (h : Pg w b X l) (hq : w.cell? ⟨q, 0, none⟩ = some (.string (BA t))) (hl : l.length + t.length ≤ 1000000) :
    Calls Tryz.prog 66 #[.pointer (some ⟨b, 0, none⟩), .slice (some ⟨q, 0, none⟩) 1 1] w fun e w' => e = .returned (.tuple #[]) ∧ Puts w b X (l ++ t) w' := by
  obtain ⟨i0, hi, hz0, hz1, hz2⟩ := info_of info_byte
  have HP := hide h
  have hbw := h.lt
  obtain ⟨bv, h1, h2, h3, h4, h5, h6⟩ := h
  obtain ⟨ba, bn, bc, rfl⟩ := slice_own h2
  have c0 : w.cell? ⟨b, 0, none⟩ = some (.slice ba bn bc) := h1.cell 0 rfl
  have HO := hide h2
  have HST : Hid (∀ w1 v', w1.ownsRow (b + 1) 5 1 v' (l.length + (BA t).size) (Lib.byteCells l ++ Lib.strCells (BA t)) → w.grownBy w1 (Value.ownBlock (.slice ba bn bc)) → (∀ k, v'.ownBlock = some k → Value.ownBlock (.slice ba bn bc) = some k ∨ w.heap.size ≤ k) → w1.cell? ⟨b, 0, none⟩ = some (.slice ba bn bc) ∧ w1.frozen? ⟨b, 0, none⟩ = false ∧ Puts w b X (l ++ t) (w1.setCell ⟨b, 0, none⟩ v')) := hide (fun w1 v' a b' c => pg_step h1 h2 h3 h4 h5 h6 a b' c)
  clear h1 h2 h3 h4 h5 h6
  go_enter Tryz.func66, Tryz.ntmps66
  go_wp2_with fail
  go_loopw [8] (fun i wr => ∃ k : Nat, i = .int .i64 k ∧ ((k = 0 ∧ wr = w) ∨ (k = 1 ∧ Hid (Puts w b X (l ++ t) wr)))) (fun i _ => 1 - (intOf i).toNat)
  case atStart => exact ⟨0, rfl, .inl ⟨rfl, rfl⟩⟩
  case round =>
    obtain ⟨k, rfl, ⟨rfl, rfl⟩ | ⟨rfl, HD⟩⟩ := hrel
    · go_wp2_with (first
        | (at_builtin; refine wpList_append_str rfl (.tmp 16) (.tmp 17) 49 9 rfl (b + 1) 5 i0 und_bytes und_str hi hz0 hz1 hz2 (.slice ba bn bc) l.length (Lib.byteCells l) rfl (unhide HO) (BA t) rfl (by unfold maxLen; simp; omega) (by simp; omega) (by omega) ?_)
        | go_in)
      intro v' w1 hown hgrow hat
      obtain ⟨va, vn, vc, rfl⟩ := slice_own hown
      obtain ⟨d0, z0, hP⟩ := unhide HST w1 _ hown hgrow hat
      have HD := hide hP
      clear hown hgrow hat hP
      go_wp2
      go_roundw
      case rel => exact ⟨1, rfl, .inr ⟨rfl, HD⟩⟩
      case measure => simp [intOf]
    · go_wp2
      refine bodyPost_end (res0 rfl _ _) rfl ?_
      exact ⟨rfl, unhide HD⟩

end Go.Proofs.YtnamfjbfcbamjaaGreatDoor

/- A plain Var in quotes is written: the chapter's example of Print. -/
namespace Go.Proofs.YtnamfjbfcbamjaaGreatDoor
open Go.RowKit

set_option maxRecDepth 20000 in
set_option maxHeartbeats 8000000 in
theorem sign_zero (w : World) (he : WEnv w) : Calls Tryz.prog 96 #[.int .i64 0] w fun e w' => e = .returned (.string ⟨#[]⟩) ∧ Below w.heap.size w w' := by
  have a0 := he.sg 0 (by decide)
  have a1 := he.sg 1 (by decide)
  have a2 := he.sg 2 (by decide)
  have a3 := he.sg 3 (by decide)
  have a4 := he.sg 4 (by decide)
  have a5 := he.sg 5 (by decide)
  have a6 := he.sg 6 (by decide)
  have a7 := he.sg 7 (by decide)
  have a8 := he.sg 8 (by decide)
  have a9 := he.sg 9 (by decide)
  have a10 := he.sg 10 (by decide)
  have a11 := he.sg 11 (by decide)
  have a12 := he.sg 12 (by decide)
  have a13 := he.sg 13 (by decide)
  have a14 := he.sg 14 (by decide)
  have a15 := he.sg 15 (by decide)
  simp only [List.getElem?_cons_zero, List.getElem?_cons_succ] at a0 a1 a2 a3 a4 a5 a6 a7 a8 a9 a10 a11 a12 a13 a14 a15
  clear he
  go_enter Tryz.func96, Tryz.ntmps96
  go_wp2_with fail
  go_loopw [6] (fun x wr => ∃ k : Int, x = .int .i64 k ∧ 0 ≤ k ∧ k ≤ 8 ∧ Hid (Below w.heap.size w wr)) (fun x _ => 8 - (intOf x).toNat)
  case atStart => exact ⟨0, rfl, by decide, by decide, hide (Below.refl _ _)⟩
  case round =>
    clear a0 a1 a2 a3 a4 a5 a6 a7 a8 a9 a10 a11 a12 a13 a14 a15
    obtain ⟨k, rfl, hk0, hk1, HB⟩ := hrel
    by_cases hk8 : k = 8
    · subst hk8
      go_wp2
      go_ret
      exact ⟨rfl, unhide HB⟩
    have hcs : k = 0 ∨ k = 1 ∨ k = 2 ∨ k = 3 ∨ k = 4 ∨ k = 5 ∨ k = 6 ∨ k = 7 := by omega
    clear hk0 hk1 hk8
    rcases hcs with rfl | rfl | rfl | rfl | rfl | rfl | rfl | rfl
    all_goals
      have hidx0 := sidx0 wr
      have hidx1 := sidx1 wr
      have hidx2 := sidx2 wr
      have hidx3 := sidx3 wr
      have hidx4 := sidx4 wr
      have hidx5 := sidx5 wr
      have hidx6 := sidx6 wr
      have hidx7 := sidx7 wr
      go_wp2
      go_roundw
      case rel => exact ⟨_, rfl, by decide, by decide, hide ((unhide HB).alloc (unhide HB).size _)⟩
      case measure => simp [intOf]

theorem Pg.keep {w w1 : World} {b : Nat} {X : Nat → Prop} {l : List UInt8} (h : Puts w b X l w1) : ∃ X1, Pg w1 b X1 l ∧ GrownS w w1 X ∧ ∀ k, X1 k → X k ∨ w.heap.size ≤ k := h
/-- A block that is no part of the page stands on. -/
theorem blk_puts {w w1 : World} {q : Nat} {X X1 : Nat → Prop} {t : TypeId} {cs : Array Value} (hb : Blk w q t cs) (hg : GrownS w w1 X) (hx : ∀ k, X1 k → X k ∨ w.heap.size ≤ k) (hq : ¬ X q) : Blk w1 q t cs ∧ ¬ X1 q :=
  ⟨hb.grownS hg hq, fun e => by
    rcases hx q e with e | e
    · exact hq e
    · have := hb.lt; omega⟩
/-- A text that is laid down anew, and written. -/
theorem put_new (t : List UInt8) (w : World) (n b : Nat) (X : Nat → Prop) (l : List UInt8) (hn : w.heap.size = n) (h : Pg w b X l) (hl : l.length + t.length ≤ 1000000) :
    Calls Tryz.prog 66 #[.pointer (some ⟨b, 0, none⟩), .slice (some ⟨n, 0, none⟩) 1 1] (w.alloc (.cells #[.string (BA t)] 9)) fun e w' => e = .returned (.tuple #[]) ∧ Puts w b X (l ++ t) w' := by
  subst hn
  exact (put_any t _ b w.heap.size X l (h.below ((Below.refl _ _).alloc (Nat.le_refl _) _)) ((Blk.new w _ _).cell 0 rfl) hl).mono (fun _ _ ⟨h1, h2⟩ => ⟨h1, h2.of_below ((Below.refl _ _).alloc (Nat.le_refl _) _)⟩)

end Go.Proofs.YtnamfjbfcbamjaaGreatDoor

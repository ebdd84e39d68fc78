/-
  Package word's page: put, sign.
  Same, of the program and of the document: whether two words are the same.
-/
import Derived.Test.YtnamfjbfcbamjaaGreatDoorP16
import Derived.Test.YtnamfjbfcbamjaaGreatDoorP07
namespace Go.Proofs.YtnamfjbfcbamjaaGreatDoor
open Go.RowKit
def Pg (w : World) (b : Nat) (X : Nat → Prop) (l : List UInt8) : Prop :=
  ∃ bv, Blk w b 67 #[bv] ∧ OwnB w (b + 1) bv l ∧ X b ∧ (∀ k, bv.ownBlock = some k → X k) ∧ (∀ k, X k → b ≤ k) ∧ ∀ k, X k → k < w.heap.size
theorem Pg.below {w w1 : World} {b : Nat} {X : Nat → Prop} {l : List UInt8} (h : Pg w b X l) (hb : Below w.heap.size w w1) : Pg w1 b X l := by
  obtain ⟨bv, h1, h2, h3, h4, h5, h6⟩ := h
  have hg : GrownS w w1 (fun _ => False) := grownS_of_below hb
  exact ⟨bv, h1.grownS hg (fun e => e), own_grownS h2 hg (fun _ _ e => e), h3, h4, h5, fun k hk => Nat.lt_of_lt_of_le (h6 k hk) hb.size⟩
theorem Pg.lt {w : World} {b : Nat} {X : Nat → Prop} {l : List UInt8} (h : Pg w b X l) : b < w.heap.size := by
  obtain ⟨bv, h1, _⟩ := h
  exact h1.lt
theorem Pg.hi {w : World} {b : Nat} {X : Nat → Prop} {l : List UInt8} (h : Pg w b X l) : ∀ k, X k → k < w.heap.size := by
  obtain ⟨bv, h1, h2, h3, h4, h5, h6⟩ := h
  exact h6
theorem Pg.lo {w : World} {b : Nat} {X : Nat → Prop} {l : List UInt8} (h : Pg w b X l) : ∀ k, X k → b ≤ k := by
  obtain ⟨bv, h1, h2, h3, h4, h5, h6⟩ := h
  exact h5
def Puts (w : World) (b : Nat) (X : Nat → Prop) (l : List UInt8) (w' : World) : Prop := ∃ X', Pg w' b X' l ∧ GrownS w w' X ∧ ∀ k, X' k → X k ∨ w.heap.size ≤ k
theorem Puts.trans {w w1 w2 : World} {b : Nat} {X X1 : Nat → Prop} {l : List UInt8} (hg : GrownS w w1 X) (hx : ∀ k, X1 k → X k ∨ w.heap.size ≤ k) (h2 : Puts w1 b X1 l w2) : Puts w b X l w2 := by
  obtain ⟨X2, h3, h4, h5⟩ := h2
  refine ⟨X2, h3, hg.trans2 h4 (fun k hk e => ?_), fun k hk => ?_⟩
  · rcases hx k e with e | e
    · exact e
    · omega
  · rcases h5 k hk with e | e
    · exact hx k e
    · exact .inr (Nat.le_trans hg.size e)
theorem Puts.of_below {w w1 w2 : World} {b : Nat} {X : Nat → Prop} {l : List UInt8} (hb : Below w.heap.size w w1) (h2 : Puts w1 b X l w2) : Puts w b X l w2 := Puts.trans (grownS_of_below hb) (fun _ h => .inl h) h2
theorem Puts.refl {w : World} {b : Nat} {X : Nat → Prop} {l : List UInt8} (h : Pg w b X l) : Puts w b X l w := ⟨X, h, grownS_of_below (Below.refl _ _), fun _ h => .inl h⟩
theorem wpList_append_str {P : Program} {w : World} {ops : Array Oper} {rest : List Oper} {o : Oper} {a : Act} {Q : Exit → Act → World → Prop} (hgd : o.guard = none) (sl x : Operand) (t u : TypeId)
    (ho : o.op = .call { callee := .builtin .append, args := #[sl, x], argTypes := #[t, u] })
    (base : Nat) (e : TypeId) (i : TypeInfo) (ht : P.underlying t = some (.slice e)) (hu : P.underlying u = some .string) (hi : P.info? e = some i) (hz : i.zero = some (.int .u8 0))
    (hsize : i.size = 1) (hby : i.bytes = 1)
    (v : Value) (n : Nat) (xs : List Value) (hs : a.eval sl = v) (hown : w.ownsRow base e 1 v n xs) (s : ByteArray) (hx : a.eval x = .string s)
    (h63 : n + s.size ≤ maxLen) (hbytes : n + s.size ≤ 140737488355328) (hbase : base ≤ w.heap.size)
    (h : ∀ v' w', w'.ownsRow base e 1 v' (n + s.size) (xs ++ Lib.strCells s) → w.grownBy w' v.ownBlock → (∀ k, v'.ownBlock = some k → v.ownBlock = some k ∨ w.heap.size ≤ k) → wpList P ops Q rest (a.put o.dst v') w') : wpList P ops Q (o :: rest) a w := by
  refine wpList_plain hgd fun K hK => ?_
  obtain ⟨v', w', hr, h2, h3, h4⟩ := Lib.run_append_own_string (P := P) w base t u o.type e i ht hu hi hz hsize hby v n xs hown s h63 hbytes hbase
  have h5 := append_str_at (P := P) w base t u o.type e i ht hu hi hz hsize hby v n xs hown s h63 hbytes hr
  unfold Oper.wp execOp
  simp only [ho, resolve, invoke, builtin, Sem.run_bind, Sem.run_pure, Result.andThen_ok, List.map_toArray, List.map_cons, List.map_nil, hs, hx, hr]
  exact hK _ _ (h v' w' h2 h3 h5)
theorem pg_step {w w1 : World} {b : Nat} {X : Nat → Prop} {bv v' : Value} {l t : List UInt8} (h1 : Blk w b 67 #[bv]) (h2 : OwnB w (b + 1) bv l) (h3 : X b) (h4 : ∀ k, bv.ownBlock = some k → X k) (h5 : ∀ k, X k → b ≤ k) (h6 : ∀ k, X k → k < w.heap.size)
    (hown : w1.ownsRow (b + 1) 5 1 v' (l.length + (BA t).size) (Lib.byteCells l ++ Lib.strCells (BA t))) (hg : w.grownBy w1 bv.ownBlock) (hat : ∀ k, v'.ownBlock = some k → bv.ownBlock = some k ∨ w.heap.size ≤ k) :
    w1.cell? ⟨b, 0, none⟩ = some bv ∧ w1.frozen? ⟨b, 0, none⟩ = false ∧ Puts w b X (l ++ t) (w1.setCell ⟨b, 0, none⟩ v') := by
  have hbv : some b ≠ bv.ownBlock := own_type h2 h1 (by decide)
  have g1 : GrownS w w1 (fun k => some k = bv.ownBlock) := GrownS.of hg (fun _ e => e)
  have k1 := h1.grownS g1 hbv
  have ho : OwnB w1 (b + 1) v' (l ++ t) := own_push (by simp) rfl hown
  have gs := setb_grown w1 b 0 v'
  refine ⟨k1.cell 0 rfl, k1.frozen 0, fun k => X k ∨ v'.ownBlock = some k, ⟨v', ?_, own_grownS ho gs (fun k hk e => own_type ho k1 (by decide) (by rw [← e]; exact hk.symm)), .inl h3, fun k hk => .inr hk, ?_, ?_⟩, ?_, ?_⟩
  · have := k1.set 0 v'
    simpa using this
  · intro k hk
    rcases hk with hk | hk
    · exact h5 k hk
    · have := (World.ownsRow.lt ho k hk).1; omega
  · intro k hk
    rcases hk with hk | hk
    · have h7 := h6 k hk; have h8 := hg.size; simp; omega
    · have := (World.ownsRow.lt ho k hk).2; simpa using this
  · exact (g1.mono (fun k _ e => h4 k e.symm)).trans (gs.mono (fun k _ e => by rw [e]; exact h3))
  · intro k hk
    rcases hk with hk | hk
    · exact .inl hk
    · exact (hat k hk).imp (h4 k) (fun e => e)
set_option maxRecDepth 20000 in
set_option maxHeartbeats 4000000 in
theorem put_any (t : List UInt8) (w : World) (b q : Nat) (X : Nat → Prop) (l : List UInt8) (h : Pg w b X l) (hq : w.cell? ⟨q, 0, none⟩ = some (.string (BA t))) (hl : l.length + t.length ≤ 1000000) :
    Calls Tryz.prog 66 #[.pointer (some ⟨b, 0, none⟩), .slice (some ⟨q, 0, none⟩) 1 1] w fun e w' => e = .returned (.tuple #[]) ∧ Puts w b X (l ++ t) w' := by
  obtain ⟨i0, hi, hz0, hz1, hz2⟩ := info_of info_byte
  have HP := hide h
  have hbw := h.lt
  obtain ⟨bv, h1, h2, h3, h4, h5, h6⟩ := h
  obtain ⟨ba, bn, bc, rfl⟩ := slice_own h2
  have c0 : w.cell? ⟨b, 0, none⟩ = some (.slice ba bn bc) := h1.cell 0 rfl
  have HO := hide h2
  have HST : Hid (∀ w1 v', w1.ownsRow (b + 1) 5 1 v' (l.length + (BA t).size) (Lib.byteCells l ++ Lib.strCells (BA t)) → w.grownBy w1 (Value.ownBlock (.slice ba bn bc)) → (∀ k, v'.ownBlock = some k → Value.ownBlock (.slice ba bn bc) = some k ∨ w.heap.size ≤ k) → w1.cell? ⟨b, 0, none⟩ = some (.slice ba bn bc) ∧ w1.frozen? ⟨b, 0, none⟩ = false ∧ Puts w b X (l ++ t) (w1.setCell ⟨b, 0, none⟩ v')) := hide (fun w1 v' a b' c => pg_step h1 h2 h3 h4 h5 h6 a b' c)
  clear h1 h2 h3 h4 h5 h6
  go_enter Tryz.func66, Tryz.ntmps66
  go_wp2_with fail
  go_loopw [8] (fun i wr => ∃ k : Nat, i = .int .i64 k ∧ ((k = 0 ∧ wr = w) ∨ (k = 1 ∧ Hid (Puts w b X (l ++ t) wr)))) (fun i _ => 1 - (intOf i).toNat)
  case atStart => exact ⟨0, rfl, .inl ⟨rfl, rfl⟩⟩
  case round =>
    obtain ⟨k, rfl, ⟨rfl, rfl⟩ | ⟨rfl, HD⟩⟩ := hrel
    · go_wp2_with (first
        | (at_builtin; refine wpList_append_str rfl (.tmp 16) (.tmp 17) 49 9 rfl (b + 1) 5 i0 und_bytes und_str hi hz0 hz1 hz2 (.slice ba bn bc) l.length (Lib.byteCells l) rfl (unhide HO) (BA t) rfl (by unfold maxLen; simp; omega) (by simp; omega) (by omega) ?_)
        | go_in)
      intro v' w1 hown hgrow hat
      obtain ⟨va, vn, vc, rfl⟩ := slice_own hown
      obtain ⟨d0, z0, hP⟩ := unhide HST w1 _ hown hgrow hat
      have HD := hide hP
      clear hown hgrow hat hP
      go_wp2
      go_roundw
      case rel => exact ⟨1, rfl, .inr ⟨rfl, HD⟩⟩
      case measure => simp [intOf]
    · go_wp2
      refine bodyPost_end (res0 rfl _ _) rfl ?_
      exact ⟨rfl, unhide HD⟩
end Go.Proofs.YtnamfjbfcbamjaaGreatDoor
namespace Go.Proofs.YtnamfjbfcbamjaaGreatDoor
open Go.RowKit
def SameN (f N : Nat) : Prop := ∀ (a b : List Prt) (x y : Value) (w : World) (A B : Nat → Prop), SizeOf.sizeOf a ≤ N → WAt w A x a → WAt w B y b → (∀ k, A k → k < w.heap.size) → (∀ k, B k → k < w.heap.size) →
  Calls Tryz.prog f #[x, y] w fun e w' => e = .returned (.bool (sameW a b)) ∧ Below w.heap.size w w'
def headP (p q : Prt) : Bool := p.kind == q.kind && p.text == q.text && p.quote == q.quote && p.op == q.op && p.colon == q.colon
theorem sameP_head (p q : Prt) : sameP p q = (headP p q && sameW p.sub q.sub) := by
  obtain ⟨k, t, u, o, c, s⟩ := p
  obtain ⟨k', t', u', o', c', s'⟩ := q
  rw [sameP_mk]
  rfl
set_option maxRecDepth 20000 in
set_option maxHeartbeats 4000000 in
theorem samePart_any {N : Nat} (hS : SameN 33 N) (p q : Prt) (x y : Value) (w : World) (A B : Nat → Prop) (hp : SizeOf.sizeOf p.sub ≤ N) (hx : PV w A x p) (hy : PV w B y q) (hA : ∀ k, A k → k < w.heap.size) (hB : ∀ k, B k → k < w.heap.size) :
    Calls Tryz.prog 53 #[x, y] w fun e w' => e = .returned (.bool (sameP p q)) ∧ Below w.heap.size w w' := by
  obtain ⟨vx, rfl, hx⟩ := hx
  obtain ⟨vy, rfl, hy⟩ := hy
  rw [sameP_head]
  have HW : Hid (∀ w1 : World, Below w.heap.size w w1 → Calls Tryz.prog 33 #[vx, vy] w1 fun e w' => e = .returned (.bool (sameW p.sub q.sub)) ∧ Below w1.heap.size w1 w') := hide (fun w1 hb =>
    hS _ _ _ _ w1 A B hp (hx.below hb hA) (hy.below hb hB) (fun k h => Nat.lt_of_lt_of_le (hA k h) hb.size) (fun k h => Nat.lt_of_lt_of_le (hB k h) hb.size))
  have HB : Hid (∀ x y, Below w.heap.size w ((w.alloc x).alloc y)) := hide (fun x y => ((Below.refl _ w).alloc (Nat.le_refl _) _).alloc (by simp) _)
  clear hx hy hS hp hA hB
  go_enter Tryz.func53, Tryz.ntmps53
  go_wp2_with (go_at_call 33; refine (unhide HW _ (unhide HB _ _)).mono ?_; rintro e w1 ⟨rfl, b1⟩)
  all_goals
    try rw [BA_toList, BA_toList] at *
    go_ret
    refine ⟨ret_bool (by simp [headP, *]), ?_⟩
    first
    | exact unhide HB _ _
    | exact (unhide HB _ _).trans (b1.mono (by simp; omega))
theorem drop_same {a b : List Prt} {k : Nat} {p q : Prt} (ha : a[k]? = some p) (hb : b[k]? = some q) : sameW (a.drop k) (b.drop k) = (sameP p q && sameW (a.drop (k + 1)) (b.drop (k + 1))) := by
  obtain ⟨h1, h2⟩ := List.getElem?_eq_some_iff.1 ha
  obtain ⟨h3, h4⟩ := List.getElem?_eq_some_iff.1 hb
  rw [List.drop_eq_getElem_cons h1, List.drop_eq_getElem_cons h3, sameW_cons, h2, h4]
theorem get_ex {l : List Prt} {k : Nat} (h : k < l.length) : ∃ p, l[k]? = some p := ⟨l[k], List.getElem?_eq_getElem h⟩
theorem mem_of {l : List Prt} {k : Nat} {p : Prt} (h : l[k]? = some p) : p ∈ l := List.mem_of_getElem? h
set_option maxRecDepth 20000 in
set_option maxHeartbeats 4000000 in
theorem equal_any {N : Nat} (hS : SameN 33 N) (a b : List Prt) (x y : Value) (w : World) (A B : Nat → Prop) (hN : SizeOf.sizeOf a ≤ N + 1) (hx : WAt w A x a) (hy : WAt w B y b) (hA : ∀ k, A k → k < w.heap.size) (hB : ∀ k, B k → k < w.heap.size) :
    Calls Tryz.prog 52 #[x, y, .func (Fn.func 53) #[] #[]] w fun e w' => e = .returned (.bool (sameW a b)) ∧ Below w.heap.size w w' := by
  obtain ⟨ada, capa, rfl, hla⟩ := hx.len
  obtain ⟨adb, capb, rfl, hlb⟩ := hy.len
  by_cases hab : a.length = b.length
  · have HX := hide hx
    have HY := hide hy
    have HAB := hide hab
    clear hx hy
    rw [← hab]
    have HS := hide hS
    have HSN := hide hN
    clear hab hlb hS hN
    go_enter Tryz.func52, Tryz.ntmps52
    go_wp2
    go_loopw [17] (fun i wr => ∃ k : Nat, k ≤ a.length ∧ i = .int .i64 k ∧ Hid (sameW (a.drop k) (b.drop k) = sameW a b) ∧ Hid (Below w.heap.size w wr)) (fun i _ => a.length - (intOf i).toNat)
    case atStart => exact ⟨0, Nat.zero_le _, rfl, hide rfl, hide (Below.refl _ _)⟩
    case round =>
      obtain ⟨k, hk, rfl, HE, HB⟩ := hrel
      by_cases hlt : k < a.length
      · obtain ⟨p, hp⟩ := get_ex hlt
        obtain ⟨q, hq⟩ := get_ex (l := b) (k := k) (by have := unhide HAB; omega)
        obtain ⟨ga, oa, va, ea, hga, a0, a1, a2, a3, a4, a5, hsa⟩ := ((unhide HX).below (unhide HB) hA).part hp
        have hy' := (unhide HY).below (unhide HB) hB
        rw [← unhide HAB] at hy'
        obtain ⟨gb, ob, vb, eb, hgb, b0, b1, b2, b3, b4, b5, hsb⟩ := hy'.part hq
        obtain ⟨ada', capa', rfl, _⟩ := hsa.len
        obtain ⟨adb', capb', rfl, _⟩ := hsb.len
        have hga' := Nat.lt_of_lt_of_le (hA _ hga) (unhide HB).size
        have hgb' := Nat.lt_of_lt_of_le (hB _ hgb) (unhide HB).size
        have HSP : Hid (∀ w1, Below wr.heap.size wr w1 → Calls Tryz.prog 53 #[.agg #[.int .i64 p.kind, .string (BA p.text), .bool p.quote, .int .i64 p.op, .bool p.colon, .slice ada' p.sub.length capa'], .agg #[.int .i64 q.kind, .string (BA q.text), .bool q.quote, .int .i64 q.op, .bool q.colon, .slice adb' q.sub.length capb']] w1 fun e w' => e = .returned (.bool (sameP p q)) ∧ Below w1.heap.size w1 w') := hide (fun w1 h1 =>
          samePart_any (unhide HS) p q _ _ w1 A B (by have := sub_lt p a (mem_of hp); have := unhide HSN; omega) ⟨_, rfl, hsa.below h1 (fun k h => Nat.lt_of_lt_of_le (hA k h) (unhide HB).size)⟩ ⟨_, rfl, hsb.below h1 (fun k h => Nat.lt_of_lt_of_le (hB k h) (unhide HB).size)⟩
            (fun k h => Nat.lt_of_lt_of_le (hA k h) (Nat.le_trans (unhide HB).size h1.size)) (fun k h => Nat.lt_of_lt_of_le (hB k h) (Nat.le_trans (unhide HB).size h1.size)))
        have HBB : Hid (∀ x y, Below wr.heap.size wr ((wr.alloc x).alloc y)) := hide (fun x y => ((Below.refl _ wr).alloc (Nat.le_refl _) _).alloc (by simp) _)
        have HST : Hid (sameW (a.drop k) (b.drop k) = (sameP p q && sameW (a.drop (k + 1)) (b.drop (k + 1)))) := hide (drop_same hp hq)
        clear hp hq hsa hsb hy' hga hgb
        subst ea eb
        rcases Bool.eq_false_or_eq_true (sameP p q) with hpq | hpq
        · rw [hpq] at HSP HST
          go_wp2_with (go_at_call 53; refine (unhide HSP _ (unhide HBB _ _)).mono ?_; rintro e w1 ⟨rfl, b1⟩)
          go_roundw
          case rel => exact ⟨k + 1, by omega, by go_num, hide (by rw [← unhide HE, unhide HST]; rfl), hide ((unhide HB).trans (((unhide HBB _ _).trans (b1.mono (by simp; omega))).mono (unhide HB).size))⟩
          case measure => simp [intOf]; omega
        · rw [hpq] at HSP HST
          go_wp2_with (go_at_call 53; refine (unhide HSP _ (unhide HBB _ _)).mono ?_; rintro e w1 ⟨rfl, b1⟩)
          go_ret
          exact ⟨ret_bool (by rw [← unhide HE, unhide HST]; rfl), (unhide HB).trans (((unhide HBB _ _).trans (b1.mono (by simp; omega))).mono (unhide HB).size)⟩
      · go_wp2
        go_ret
        exact ⟨ret_bool (by rw [← unhide HE, List.drop_eq_nil_of_le (by omega), List.drop_eq_nil_of_le (by have := unhide HAB; omega), sameW_nil]), unhide HB⟩
  · have hne : ((a.length : Int) == (b.length : Int)) = false := by rw [beq_eq_false_iff_ne]; omega
    go_enter Tryz.func52, Tryz.ntmps52
    go_wp2
    go_ret
    exact ⟨ret_bool (sameW_len hab).symm, Below.refl _ _⟩
set_option maxHeartbeats 1000000 in
theorem same_all : ∀ N : Nat, SameN 33 N
  | 0 => fun a b x y w A B hN => absurd hN (by cases a <;> simp)
  | N + 1 => by
    intro a b x y w A B hN hx hy hA hB
    have HC := hide (fun w1 (h1 : w1 = w) => (by rw [h1]; exact equal_any (same_all N) a b x y w A B hN hx hy hA hB : Calls Tryz.prog 52 #[x, y, .func (Fn.func 53) #[] #[]] w1 fun e w' => e = .returned (.bool (sameW a b)) ∧ Below w.heap.size w w'))
    clear hx hy hN hA hB
    go_enter Tryz.func33, Tryz.ntmps33
    go_wp2_with fail
    refine (unhide HC _ rfl).mono ?_
    rintro e w1 ⟨rfl, b1⟩
    go_wp2
    go_ret
    exact ⟨rfl, b1⟩
theorem same_any (a b : List Prt) (x y : Value) (w : World) (A B : Nat → Prop) (hx : WAt w A x a) (hy : WAt w B y b) (hA : ∀ k, A k → k < w.heap.size) (hB : ∀ k, B k → k < w.heap.size) :
    Calls Tryz.prog 33 #[x, y] w fun e w' => e = .returned (.bool (sameW a b)) ∧ Below w.heap.size w w' := same_all _ a b x y w A B (Nat.le_refl _) hx hy hA hB
end Go.Proofs.YtnamfjbfcbamjaaGreatDoor

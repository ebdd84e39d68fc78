/-
  InodesPlays: both tables beside one another.
-/
import Derived.Test.YtcfhgjlihifmnaaIPlain
namespace Go.Proofs.Ytcfhgjlihifmnaa
open Go.RowKit Go.Maps

/-- Both tables, apart from one another. -/
structure BX (w0 w : World) (p q nb : Nat) (T U : TB) (X Y : Nat → Prop) : Prop where
  tab : TAt w p X T nb
  ref : RAt w q Y U nb
  dis : ∀ k, X k → ¬ Y k
  lo : ∀ k, X k ∨ Y k → w0.heap.size ≤ k ∧ k < w.heap.size
  bel : Below w0.heap.size w0 w
theorem BX.below {w0 w w' : World} {p q nb : Nat} {T U : TB} {X Y : Nat → Prop} (H : BX w0 w p q nb T U X Y) (hb : Below w.heap.size w w') : BX w0 w' p q nb T U X Y :=
  ⟨H.tab.below hb, H.ref.below hb, H.dis, fun k hk => ⟨(H.lo k hk).1, Nat.lt_of_lt_of_le (H.lo k hk).2 hb.size⟩, H.bel.trans (hb.mono H.bel.size)⟩
theorem BX.left {w0 w w' : World} {p q nb : Nat} {T U T' : TB} {X Y : Nat → Prop} (H : BX w0 w p q nb T U X Y) (h1 : TAt w' p (fun k => X k ∨ w.heap.size ≤ k) T' nb) (h2 : GrownS w w' (fun k => X k ∨ w.heap.size ≤ k)) : BX w0 w' p q nb T' U (fun k => (X k ∨ w.heap.size ≤ k) ∧ k < w'.heap.size) Y :=
  ⟨h1.mono (fun k hk e => ⟨e, hk⟩), H.ref.grownS h2 (fun k hk hy e => e.elim (fun e => H.dis k e hy) (fun e => by omega)), fun k hk hy => hk.1.elim (fun e => H.dis k e hy) (fun e => by have := (H.lo k (.inr hy)).2; omega), fun k hk => hk.elim (fun e => ⟨e.1.elim (fun e => (H.lo k (.inl e)).1) (fun e => Nat.le_trans H.bel.size e), e.2⟩) (fun e => ⟨(H.lo k (.inr e)).1, Nat.lt_of_lt_of_le (H.lo k (.inr e)).2 h2.size⟩), H.bel.trans (h2.below H.bel.size (fun k e => e.elim (fun e => (H.lo k (.inl e)).1) (fun e => Nat.le_trans H.bel.size e)))⟩
theorem BX.right {w0 w w' : World} {p q nb : Nat} {T U U' : TB} {X Y : Nat → Prop} (H : BX w0 w p q nb T U X Y) (h1 : RAt w' q (fun k => Y k ∨ w.heap.size ≤ k) U' nb) (h2 : GrownS w w' (fun k => Y k ∨ w.heap.size ≤ k)) : BX w0 w' p q nb T U' X (fun k => (Y k ∨ w.heap.size ≤ k) ∧ k < w'.heap.size) :=
  ⟨H.tab.grownS h2 (fun k hk hx e => e.elim (fun e => H.dis k hx e) (fun e => by omega)), h1.mono (fun k hk e => ⟨e, hk⟩), fun k hk hy => hy.1.elim (fun e => H.dis k hk e) (fun e => by have := (H.lo k (.inl hk)).2; omega), fun k hk => hk.elim (fun e => ⟨(H.lo k (.inl e)).1, Nat.lt_of_lt_of_le (H.lo k (.inl e)).2 h2.size⟩) (fun e => ⟨e.1.elim (fun e => (H.lo k (.inr e)).1) (fun e => Nat.le_trans H.bel.size e), e.2⟩), H.bel.trans (h2.below H.bel.size (fun k e => e.elim (fun e => (H.lo k (.inr e)).1) (fun e => Nat.le_trans H.bel.size e)))⟩
theorem TAt.used {w : World} {p nb : Nat} {X : Nat → Prop} {T : TB} (h : TAt w p X T nb) : usedT T ≤ nb := by
  obtain ⟨L, h1, _, h3⟩ := h
  have := h1.count
  omega
/-- Between two rounds. -/
def BD (w0 w : World) (p q nb : Nat) (T : TB) (n : Nat) : Prop := TGood T n ∧ nb ≤ 4096 ∧ ∃ X Y, BX w0 w p q nb T T X Y
theorem BD.bel {w0 w : World} {p q nb n : Nat} {T : TB} (H : BD w0 w p q nb T n) : Below w0.heap.size w0 w := by
  obtain ⟨_, _, X, Y, h⟩ := H
  exact h.bel
theorem BD.start {w0 w1 w2 w3 : World} {p q n nb : Nat} (h4 : nb ≤ 4096) (h0 : Below w0.heap.size w0 w1) (h1 : TAt w2 p (fun k => w1.heap.size ≤ k) (List.replicate n none) nb) (h2 : Below w1.heap.size w1 w2) (h3 : RAt w3 q (fun k => w2.heap.size ≤ k) (List.replicate n none) nb) (h5 : Below w2.heap.size w2 w3) : BD w0 w3 p q nb (List.replicate n none) 0 := by
  have e0 := h0.size
  have e2 := h2.size
  have e5 := h5.size
  refine ⟨good_new _ _, h4, fun k => w1.heap.size ≤ k ∧ k < w2.heap.size, fun k => w2.heap.size ≤ k ∧ k < w3.heap.size, ⟨(h1.mono (fun k hk e => ⟨e, hk⟩)).below h5, h3.mono (fun k hk e => ⟨e, hk⟩), fun k a b => by omega, fun k e => by omega, h0.trans ((h2.trans (h5.mono e2)).mono e0)⟩⟩
def opC (o : Op12) : Array Value := #[.int .i64 o.ask, .int .i64 o.b, .int .i64 o.at', .int .i64 o.n, .string (BA o.data)]
/-- Both tables, and the law's call in a block of its own. -/
def BO (w0 w : World) (p q nb ob : Nat) (o : Op12) (T U : TB) : Prop := ∃ X Y, BX w0 w p q nb T U X Y ∧ Blk w ob 33 (opC o) ∧ ¬ X ob ∧ ¬ Y ob
theorem BO.below {w0 w w' : World} {p q nb ob : Nat} {o : Op12} {T U : TB} (H : BO w0 w p q nb ob o T U) (hb : Below w.heap.size w w') : BO w0 w' p q nb ob o T U := by
  obtain ⟨X, Y, h1, h2, h3⟩ := H
  exact ⟨X, Y, h1.below hb, h2.below hb h2.lt, h3⟩
theorem BO.blk {w0 w : World} {p q nb ob : Nat} {o : Op12} {T U : TB} (H : BO w0 w p q nb ob o T U) : Blk w ob 33 (opC o) := by
  obtain ⟨X, Y, h1, h2, h3⟩ := H
  exact h2
theorem BO.bel {w0 w : World} {p q nb ob : Nat} {o : Op12} {T U : TB} (H : BO w0 w p q nb ob o T U) : Below w0.heap.size w0 w := by
  obtain ⟨X, Y, h1, h2, h3⟩ := H
  exact h1.bel
theorem BO.bd {w0 w : World} {p q nb ob n : Nat} {o : Op12} {T : TB} (H : BO w0 w p q nb ob o T T) (h : TGood T n) (h4 : nb ≤ 4096) : BD w0 w p q nb T n := by
  obtain ⟨X, Y, h1, h2, h3⟩ := H
  exact ⟨h, h4, X, Y, h1⟩
theorem BD.op {w0 w W : World} {p q nb n : Nat} {T : TB} (H : BD w0 w p q nb T n) (o : Op12) (hW : W = w.alloc (.cells (opC o) 33)) : BO w0 W p q nb w.heap.size o T T := by
  obtain ⟨_, _, X, Y, h⟩ := H
  have hb : Below w.heap.size w W := by rw [hW]; exact (Below.refl _ _).alloc (Nat.le_refl _) _
  exact ⟨X, Y, h.below hb, by rw [hW]; exact Blk.new _ _ _, fun e => by have := (h.lo _ (.inl e)).2; omega, fun e => by have := (h.lo _ (.inr e)).2; omega⟩
def OC (w : World) (ob : Nat) (o : Op12) : Prop := w.cell? ⟨ob, 0, none⟩ = some (.int .i64 o.ask) ∧ w.cell? ⟨ob, 1, none⟩ = some (.int .i64 o.b) ∧ w.cell? ⟨ob, 2, none⟩ = some (.int .i64 o.at') ∧ w.cell? ⟨ob, 3, none⟩ = some (.int .i64 o.n) ∧ w.cell? ⟨ob, 4, none⟩ = some (.string (BA o.data))
theorem BO.oc {w0 w : World} {p q nb ob : Nat} {o : Op12} {T U : TB} (H : BO w0 w p q nb ob o T U) : OC w ob o :=
  ⟨H.blk.cell 0 rfl, H.blk.cell 1 rfl, H.blk.cell 2 rfl, H.blk.cell 3 rfl, H.blk.cell 4 rfl⟩
theorem bo_do {w0 w : World} {p q nb ob n : Nat} {o : Op12} {T : TB} (H : BO w0 w p q nb ob o T T) (hgd : TGood T n) (hn : n ≤ 1000000) (ho : o.ok) (hd : o.data.length ≤ 5000) :
    Calls Try.prog 16 #[.pointer (some ⟨p, 0, none⟩), .agg #[.int .i64 o.ask, .int .i64 o.b, .int .i64 o.at', .int .i64 o.n, .string (BA o.data)]] w fun e w' => ∃ (N : Int) (s : List UInt8) (E : Int), e = .returned (.tuple #[.int .i64 N, .string (BA s), .int .i64 E]) ∧ OC w' ob o ∧ Hid (∃ T', DoSp T (nb - usedT T) o N s E T' ∧ BO w0 w' p q nb ob o T' T) := by
  obtain ⟨X, Y, h1, h2, h3, h4⟩ := H
  refine (do_any (h1.tab.mono (Y := fun k => X k ∨ w.heap.size ≤ k) (fun k _ e => .inl e)) hgd hn (fun j hj => .inr hj) o ho hd).mono ?_
  rintro e w' ⟨N, s, E, k1, T', k2, k3, k4⟩
  have hlt := h2.lt
  have hB : BO w0 w' p q nb ob o T' T := ⟨_, _, h1.left k3 k4, h2.grownS k4 (fun e => e.elim h3 (fun e => by omega)), fun e => e.1.elim h3 (fun e => by omega), h4⟩
  exact ⟨N, s, E, k1, hB.oc, hide ⟨T', k2, hB⟩⟩
theorem bo_plain {w0 w : World} {p q nb ob n : Nat} {o : Op12} {T T' : TB} {N E : Int} {s : List UInt8} (H : BO w0 w p q nb ob o T' T) (hsp : DoSp T (nb - usedT T) o N s E T') (hub : usedT T ≤ nb) (hnb : nb ≤ 4096) (hgd : TGood T n) (hn : n ≤ 1000000) (ho : o.ok) (hd : o.data.length ≤ 5000) :
    Calls Try.prog 17 #[.pointer (some ⟨q, 0, none⟩), .agg #[.int .i64 o.ask, .int .i64 o.b, .int .i64 o.at', .int .i64 o.n, .string (BA o.data)]] w fun e w' => e = .returned (.tuple #[.int .i64 N, .string (BA s), .int .i64 E]) ∧ w'.cell? ⟨ob, 1, none⟩ = some (.int .i64 o.b) ∧ Hid (BO w0 w' p q nb ob o T' T') := by
  obtain ⟨X, Y, h1, h2, h3, h4⟩ := H
  refine (plain_any (h1.ref.mono (Y := fun k => Y k ∨ w.heap.size ≤ k) (fun k _ e => .inl e)) hgd hn hub hnb (fun j hj => .inr hj) o ho hd).mono ?_
  rintro e w' ⟨N', s', E', k1, T2, k2, k3, k4⟩
  obtain ⟨rfl, rfl, rfl, rfl⟩ := hsp.uniq k2
  have hlt := h2.lt
  have hB : BO w0 w' p q nb ob o T' T' := ⟨_, _, h1.right k3 k4, h2.grownS k4 (fun e => e.elim h4 (fun e => by omega)), h3, fun e => e.1.elim h4 (fun e => by omega)⟩
  exact ⟨k1, hB.oc.2.1, hide hB⟩
theorem bo_get {w0 w : World} {p q nb ob n : Nat} {o : Op12} {T : TB} (H : BO w0 w p q nb ob o T T) (hgd : TGood T n) (ho : o.ok) :
    Calls Try.prog 18 #[.pointer (some ⟨q, 0, none⟩), .int .i64 o.b] w fun e w' => ∃ (u : Int) (ad : Option Addr) (m c : Nat), e = .returned (.agg #[.int .i64 (kindOf (ndAt T o.b) : Int), .int .i64 (namesOf (ndAt T o.b) : Int), .int .i64 u, .string (BA (datO (ndAt T o.b))), .slice ad m c]) ∧ Hid (BO w0 w' p q nb ob o T T) := by
  have H' := H
  obtain ⟨X, Y, h1, h2, h3, h4⟩ := H
  refine (rget_any h1.ref (fun k x hx => (hgd k x hx).1.kind1) o.b ho.2.1).mono ?_
  rintro e w' ⟨u, ad, m, c, k1, k2⟩
  exact ⟨u, ad, m, c, k1, hide (H'.below k2)⟩
/-- And the document's node in a block of its own. -/
def BN (w0 w : World) (p q nb ob : Nat) (o : Op12) (T : TB) (xb : Nat) (cs : Array Value) : Prop := BO w0 w p q nb ob o T T ∧ Blk w xb 44 cs
theorem BN.below {w0 w w' : World} {p q nb ob xb : Nat} {o : Op12} {T : TB} {cs : Array Value} (H : BN w0 w p q nb ob o T xb cs) (hb : Below w.heap.size w w') : BN w0 w' p q nb ob o T xb cs := ⟨H.1.below hb, H.2.below hb H.2.lt⟩
theorem BO.bn {w0 w W : World} {p q nb ob : Nat} {o : Op12} {T : TB} {cs : Array Value} (H : BO w0 w p q nb ob o T T) (hW : W = w.alloc (.cells cs 44)) : BN w0 W p q nb ob o T w.heap.size cs :=
  ⟨H.below (by rw [hW]; exact (Below.refl _ _).alloc (Nat.le_refl _) _), by rw [hW]; exact Blk.new _ _ _⟩
/-- The cells that the law's long test reads. -/
def NC (w : World) (ob xb : Nat) (b k m : Int) (D : ByteArray) : Prop := w.cell? ⟨ob, 1, none⟩ = some (.int .i64 b) ∧ w.cell? ⟨xb, 0, none⟩ = some (.int .i64 k) ∧ w.cell? ⟨xb, 1, none⟩ = some (.int .i64 m) ∧ w.cell? ⟨xb, 3, none⟩ = some (.string D)
def ndC (k m u : Int) (D : ByteArray) (ad : Option Addr) (s c : Nat) : Array Value := #[.int .i64 k, .int .i64 m, .int .i64 u, .string D, .slice ad s c]
theorem BN.nc {w0 w : World} {p q nb ob xb s c : Nat} {o : Op12} {T : TB} {k m u : Int} {D : ByteArray} {ad : Option Addr} (H : BN w0 w p q nb ob o T xb (ndC k m u D ad s c)) : NC w ob xb o.b k m D :=
  ⟨H.1.oc.2.1, H.2.cell 0 rfl, H.2.cell 1 rfl, H.2.cell 3 rfl⟩
theorem bn_free {w0 w : World} {p q nb ob xb : Nat} {o : Op12} {T : TB} {cs : Array Value} (H : BN w0 w p q nb ob o T xb cs) : Calls Try.prog 19 #[.pointer (some ⟨p, 0, none⟩)] w fun e w' => e = .returned (.tuple #[.int .i64 (freeT T : Int), .int .i64 ((nb - usedT T : Nat) : Int)]) ∧ w' = w := by
  obtain ⟨⟨X, Y, h1, _⟩, _⟩ := H
  exact tfree_any h1.tab
theorem bn_rfree {w0 w : World} {p q nb ob xb n s c : Nat} {o : Op12} {T : TB} {k m u : Int} {D : ByteArray} {ad : Option Addr} (H : BN w0 w p q nb ob o T xb (ndC k m u D ad s c)) (hgd : TGood T n) (hnb : nb ≤ 4096) : Calls Try.prog 20 #[.pointer (some ⟨q, 0, none⟩)] w fun e w' => e = .returned (.tuple #[.int .i64 (freeT T : Int), .int .i64 ((nb - usedT T : Nat) : Int)]) ∧ NC w' ob xb o.b k m D ∧ Hid (BN w0 w' p q nb ob o T xb (ndC k m u D ad s c)) := by
  have H' := H
  obtain ⟨⟨X, Y, h1, _⟩, _⟩ := H
  refine (rfree_any h1.ref (fun k x hx => (hgd k x hx).1.kind1) h1.tab.used hnb).mono ?_
  rintro e w' ⟨k1, k2⟩
  exact ⟨k1, (H'.below k2).nc, hide (H'.below k2)⟩
theorem bn_kind {w0 w : World} {p q nb ob xb s c : Nat} {o : Op12} {T : TB} {k m u : Int} {D : ByteArray} {ad : Option Addr} (H : BN w0 w p q nb ob o T xb (ndC k m u D ad s c)) (ho : o.ok) : Calls Try.prog 21 #[.pointer (some ⟨p, 0, none⟩), .int .i64 o.b] w fun e w' => e = .returned (.int .i64 (kindOf (ndAt T o.b) : Int)) ∧ NC w' ob xb o.b k m D ∧ Hid (BN w0 w' p q nb ob o T xb (ndC k m u D ad s c)) := by
  have H' := H
  obtain ⟨⟨X, Y, h1, _⟩, _⟩ := H
  obtain ⟨L, hL, _⟩ := h1.tab
  refine (tkind_any hL o.b ho.2.1).mono ?_
  rintro e w' ⟨k1, rfl⟩
  exact ⟨k1, H'.nc, hide H'⟩
theorem bn_size {w0 w : World} {p q nb ob xb s c : Nat} {o : Op12} {T : TB} {k m u : Int} {D : ByteArray} {ad : Option Addr} (H : BN w0 w p q nb ob o T xb (ndC k m u D ad s c)) (ho : o.ok) : Calls Try.prog 22 #[.pointer (some ⟨p, 0, none⟩), .int .i64 o.b] w fun e w' => e = .returned (.int .i64 (sizeOfN (ndAt T o.b) : Int)) ∧ NC w' ob xb o.b k m D ∧ Hid (BN w0 w' p q nb ob o T xb (ndC k m u D ad s c)) := by
  have H' := H
  obtain ⟨⟨X, Y, h1, _⟩, _⟩ := H
  obtain ⟨L, hL, _⟩ := h1.tab
  refine (tsize_any hL o.b ho.2.1).mono ?_
  rintro e w' ⟨k1, rfl⟩
  exact ⟨k1, H'.nc, hide H'⟩
theorem bn_links {w0 w : World} {p q nb ob xb s c : Nat} {o : Op12} {T : TB} {k m u : Int} {D : ByteArray} {ad : Option Addr} (H : BN w0 w p q nb ob o T xb (ndC k m u D ad s c)) (ho : o.ok) : Calls Try.prog 23 #[.pointer (some ⟨p, 0, none⟩), .int .i64 o.b] w fun e w' => e = .returned (.int .i64 (namesOf (ndAt T o.b) : Int)) ∧ NC w' ob xb o.b k m D ∧ Hid (BN w0 w' p q nb ob o T xb (ndC k m u D ad s c)) := by
  have H' := H
  obtain ⟨⟨X, Y, h1, _⟩, _⟩ := H
  obtain ⟨L, hL, _⟩ := h1.tab
  refine (tlinks_any hL o.b ho.2.1).mono ?_
  rintro e w' ⟨k1, rfl⟩
  exact ⟨k1, H'.nc, hide H'⟩
theorem dat_len (o : Option Nd) : (BA (datO o)).size = sizeOfN o := by
  rw [BA_size]
  cases o with
  | none => rfl
  | some x => exact datOf_len x
theorem rd_all {T : TB} {n : Nat} (h : TGood T n) (i : Int) : rdT T i 0 4096 = datO (ndAt T i) := by
  unfold rdT
  cases hx : ndAt T i with
  | none => rfl
  | some x =>
    obtain ⟨k, _, hk, _⟩ := ndAt_some hx
    have h1 := (h k x hk).1.size
    show (if (0 : Int) < 0 ∨ (4096 : Int) < 0 then [] else ((datOf x).drop 0).take 4096) = datOf x
    rw [if_neg (by omega), List.drop_zero, List.take_of_length_le (by rw [datOf_len]; exact h1)]
theorem bn_read {w0 w : World} {p q nb ob xb s c n : Nat} {o : Op12} {T : TB} {k m u : Int} {D : ByteArray} {ad : Option Addr} (H : BN w0 w p q nb ob o T xb (ndC k m u D ad s c)) (hgd : TGood T n) (hnb : nb ≤ 4096) (ho : o.ok) : Calls Try.prog 24 #[.pointer (some ⟨p, 0, none⟩), .int .i64 o.b, .int .i64 0, .int .i64 4096] w fun e w' => ∃ E : Int, e = .returned (.tuple #[.string (BA (datO (ndAt T o.b))), .int .i64 E]) ∧ w'.cell? ⟨xb, 3, none⟩ = some (.string D) ∧ Hid (BD w0 w' p q nb T n) := by
  have H' := H
  obtain ⟨⟨X, Y, h1, _⟩, _⟩ := H
  refine (tread_any h1.tab (fun k x hx => (hgd k x hx).1.size) o.b 0 4096 ho.2.1 (by decide)).mono ?_
  rintro e w' ⟨k1, k2⟩
  rw [rd_all hgd] at k1
  exact ⟨_, k1, (H'.below k2).nc.2.2.2, hide ((H'.below k2).1.bd hgd hnb)⟩
/-- Behind the table's Copy. -/
def BC (w0 w : World) (p q p' nb ob : Nat) (o : Op12) (T : TB) : Prop := ∃ w1, BO w0 w1 p q nb ob o T T ∧ TAt w p' (fun k => w1.heap.size ≤ k) T nb ∧ Below w1.heap.size w1 w
/-- The elder table, and the two copies. -/
def BE (w0 w : World) (p p' q' nb ob : Nat) (o : Op12) (V T : TB) : Prop := ∃ X Z Z2, TAt w p X V nb ∧ BX w0 w p' q' nb T T Z Z2 ∧ (∀ k, X k → ¬ Z k ∧ ¬ Z2 k ∧ w0.heap.size ≤ k) ∧ Blk w ob 33 (opC o) ∧ ¬ X ob
theorem bo_copy {w0 w : World} {p q nb ob : Nat} {o : Op12} {T : TB} (H : BO w0 w p q nb ob o T T) : Calls Try.prog 12 #[.pointer (some ⟨p, 0, none⟩)] w fun e w' => ∃ p', e = .returned (.pointer (some ⟨p', 0, none⟩)) ∧ Hid (BC w0 w' p q p' nb ob o T) := by
  have H' := H
  obtain ⟨X, Y, h1, _⟩ := H
  refine (tcopy_any h1.tab).mono ?_
  rintro e w' ⟨p', k1, k2⟩
  exact ⟨p', k1, hide ⟨w, H', (unhide k2).1, (unhide k2).2⟩⟩
theorem bc_rcopy {w0 w : World} {p q p' nb ob : Nat} {o : Op12} {T : TB} (H : BC w0 w p q p' nb ob o T) : Calls Try.prog 13 #[.pointer (some ⟨q, 0, none⟩)] w fun e w' => ∃ q', e = .returned (.pointer (some ⟨q', 0, none⟩)) ∧ w'.cell? ⟨ob, 1, none⟩ = some (.int .i64 o.b) ∧ Hid (BE w0 w' p p' q' nb ob o T T) := by
  obtain ⟨w1, ⟨X, Y, h1, h2, h3, h4⟩, g1, g2⟩ := H
  refine (rcopy_any (h1.ref.below g2)).mono ?_
  rintro e w' ⟨q', k1, k2⟩
  obtain ⟨k2, k3⟩ := unhide k2
  have e1 := g2.size
  have e2 := k3.size
  have hb : Below w1.heap.size w1 w' := g2.trans (k3.mono e1)
  have hbk := h2.below hb h2.lt
  have e0 := h1.bel.size
  exact ⟨q', k1, hbk.cell 1 rfl, hide ⟨X, fun k => w1.heap.size ≤ k ∧ k < w.heap.size, fun k => w.heap.size ≤ k ∧ k < w'.heap.size, h1.tab.below hb, ⟨(g1.mono (fun k hk e => ⟨e, hk⟩)).below k3, k2.mono (fun k hk e => ⟨e, hk⟩), fun k a b => by omega, fun k e => by omega, h1.bel.trans (hb.mono e0)⟩, fun k hk => by have := h1.lo k (.inl hk); exact ⟨by omega, by omega, by omega⟩, hbk, h3⟩⟩
theorem BE.turn {w0 w w' : World} {p p' q' nb ob : Nat} {o : Op12} {V' T : TB} {X Z Z2 : Nat → Prop} (h1 : BX w0 w p' q' nb T T Z Z2) (h2 : ∀ k, X k → ¬ Z k ∧ ¬ Z2 k ∧ w0.heap.size ≤ k) (h3 : Blk w ob 33 (opC o)) (h4 : ¬ X ob) (k1 : TAt w' p X V' nb) (k2 : GrownS w w' X) : BX w0 w' p' q' nb T T Z Z2 ∧ BE w0 w' p p' q' nb ob o V' T := by
  have hB : BX w0 w' p' q' nb T T Z Z2 := ⟨h1.tab.grownS k2 (fun k _ hz hx => (h2 k hx).1 hz), h1.ref.grownS k2 (fun k _ hz hx => (h2 k hx).2.1 hz), h1.dis, fun k hk => ⟨(h1.lo k hk).1, Nat.lt_of_lt_of_le (h1.lo k hk).2 k2.size⟩, h1.bel.trans (k2.below h1.bel.size (fun k e => (h2 k e).2.2))⟩
  exact ⟨hB, X, Z, Z2, k1, hB, h2, h3.grownS k2 h4, h4⟩
theorem be_write {w0 w : World} {p p' q' nb ob n : Nat} {o : Op12} {T : TB} (H : BE w0 w p p' q' nb ob o T T) (hgd : TGood T n) (ho : o.ok) : Calls Try.prog 14 #[.pointer (some ⟨p, 0, none⟩), .int .i64 o.b, .int .i64 0, .string ⟨#[99, 104, 97, 110, 103, 101, 100]⟩] w fun e w' => ∃ N E : Int, e = .returned (.tuple #[.int .i64 N, .int .i64 E]) ∧ w'.cell? ⟨ob, 1, none⟩ = some (.int .i64 o.b) ∧ Hid (∃ V, TGood V n ∧ BE w0 w' p p' q' nb ob o V T) := by
  obtain ⟨X, Z, Z2, h0, h1, h2, h3, h4⟩ := H
  refine (twrite_any h0 (fun k x hx => (hgd k x hx).1.size) o.b 0 [99, 104, 97, 110, 103, 101, 100] ho.2.1 (by decide) (by decide)).mono ?_
  rintro e w' ⟨N, E, k1, V, k2, k3, k4⟩
  have ht := (BE.turn h1 h2 h3 h4 k3 k4).2
  exact ⟨N, E, k1, (h3.grownS k4 h4).cell 1 rfl, hide ⟨V, good_wr hgd k2, ht⟩⟩
theorem be_tie {w0 w : World} {p p' q' nb ob n : Nat} {o : Op12} {V T : TB} (H : BE w0 w p p' q' nb ob o V T) (hV : TGood V n) (hn : n ≤ 1000000) (hgd : TGood T n) (hnb : nb ≤ 4096) (ho : o.ok) : Calls Try.prog 15 #[.pointer (some ⟨p, 0, none⟩), .int .i64 o.b] w fun e w' => ∃ E : Int, e = .returned (.int .i64 E) ∧ Hid (BD w0 w' p' q' nb T n) := by
  obtain ⟨X, Z, Z2, h0, h1, h2, h3, h4⟩ := H
  refine (ttie_any h0 o.b ho.2.1 (fun k x hx => Nat.le_trans (hV k x hx).2.1 hn)).mono ?_
  rintro e w' ⟨k1, k3, k4⟩
  exact ⟨_, k1, hide ⟨hgd, hnb, Z, Z2, (BE.turn h1 h2 h3 h4 k3 k4).1⟩⟩

end Go.Proofs.Ytcfhgjlihifmnaa

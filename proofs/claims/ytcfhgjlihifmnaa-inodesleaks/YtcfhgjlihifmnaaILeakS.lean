/-
  InodesLeaks: the table and the law's two rows beside one another.
-/
import Derived.Test.YtcfhgjlihifmnaaILeakP
namespace Go.Proofs.Ytcfhgjlihifmnaa
open Go.RowKit Go.Maps

/-- The blocks that the table may have: what is new, but the law's two rows. -/
def LX (w : World) (g : Nat) : Nat → Prop := fun k => w.heap.size ≤ k ∧ k ≠ g ∧ k ≠ g + 1
/-- How far the law is: the table, the law's two rows at g and g + 1. -/
structure LS (w wr : World) (p g : Nat) (T : TB) (n : Nat) (f u : Nat → Int) : Prop where
  tab : TAt wr p (LX w g) T 100
  gd : TGood T n
  len : T.length = 5
  bel : Below w.heap.size w wr
  lo : w.heap.size ≤ g
  hi : g + 1 < wr.heap.size
  nm : Blk wr g 55 (arr f)
  us : Blk wr (g + 1) 55 (arr u)
theorem LS.turn {w wr w' : World} {p g : Nat} {T T' : TB} {n n' : Nat} {f u : Nat → Int} (H : LS w wr p g T n f u) (h1 : TAt w' p (LX w g) T' 100) (h2 : GrownS wr w' (LX w g)) (h3 : TGood T' n') (h4 : T'.length = 5) : LS w w' p g T' n' f u :=
  ⟨h1, h3, h4, H.bel.trans (h2.below H.bel.size (fun _ e => e.1)), H.lo, Nat.lt_of_lt_of_le H.hi h2.size, H.nm.grownS h2 (fun e => e.2.1 rfl), H.us.grownS h2 (fun e => e.2.2 rfl)⟩
theorem LS.below {w wr w' : World} {p g : Nat} {T : TB} {n : Nat} {f u : Nat → Int} (H : LS w wr p g T n f u) (hb : Below wr.heap.size wr w') : LS w w' p g T n f u :=
  H.turn (H.tab.below hb) (grownS_of_below hb) H.gd H.len
theorem LS.closed {w wr : World} {p g : Nat} {T : TB} {n : Nat} {f u : Nat → Int} (H : LS w wr p g T n f u) : ∀ j, wr.heap.size ≤ j → LX w g j := fun _ hj => ⟨Nat.le_trans H.bel.size hj, by have := H.hi; omega, by have := H.hi; omega⟩
theorem LS.setN {w wr : World} {p g : Nat} {T : TB} {n : Nat} {f u : Nat → Int} (H : LS w wr p g T n f u) {k : Nat} (hk : k < 6) (v : Int) : LS w (wr.setCell ⟨g, k, none⟩ (.int .i64 v)) p g T n (updA f k v) u := by
  have hg : GrownS wr (wr.setCell ⟨g, k, none⟩ (.int .i64 v)) (fun j => j = g) := GrownS.of (grown_setCell wr _ _) (fun j e => by simpa using e)
  refine ⟨H.tab.grownS hg (fun j _ e e2 => e.2.1 e2), H.gd, H.len, H.bel.trans (hg.below H.bel.size (fun j e => by rw [show j = g from e]; exact H.lo)), H.lo, Nat.lt_of_lt_of_le H.hi hg.size, ?_, H.us.grownS hg (by omega)⟩
  rw [← arr_set f v hk]
  exact H.nm.set k _
theorem LS.setU {w wr : World} {p g : Nat} {T : TB} {n : Nat} {f u : Nat → Int} (H : LS w wr p g T n f u) {k : Nat} (hk : k < 6) (v : Int) : LS w (wr.setCell ⟨g + 1, k, none⟩ (.int .i64 v)) p g T n f (updA u k v) := by
  have hg : GrownS wr (wr.setCell ⟨g + 1, k, none⟩ (.int .i64 v)) (fun j => j = g + 1) := GrownS.of (grown_setCell wr _ _) (fun j e => by simpa using e)
  refine ⟨H.tab.grownS hg (fun j _ e e2 => e.2.2 e2), H.gd, H.len, H.bel.trans (hg.below H.bel.size (fun j e => by rw [show j = g + 1 from e]; exact Nat.le_succ_of_le H.lo)), H.lo, Nat.lt_of_lt_of_le H.hi hg.size, H.nm.grownS hg (by omega), ?_⟩
  rw [← arr_set u v hk]
  exact H.us.set k _
/-- The law's rows tell what nodes have. -/
def LT (w wr : World) (p g : Nat) (T : TB) (n : Nat) : Prop := LS w wr p g T n (nmA T) (usA T)
theorem bound_nm {T : TB} {n : Nat} (h : TGood T n) (i : Nat) : 0 ≤ nmA T i ∧ nmA T i ≤ (n : Int) := by
  unfold nmA
  cases hx : ndAt T (i : Int) with
  | none => exact ⟨by simp [namesOf], by simp [namesOf]⟩
  | some x =>
    obtain ⟨k, _, hk, _⟩ := ndAt_some hx
    have := (h k x hk).2.1
    show (0 : Int) ≤ (x.names : Int) ∧ (x.names : Int) ≤ (n : Int)
    omega
theorem bound_us {T : TB} {n : Nat} (h : TGood T n) (i : Nat) : 0 ≤ usA T i ∧ usA T i ≤ (n : Int) := by
  unfold usA
  cases hx : ndAt T (i : Int) with
  | none => exact ⟨by simp [usersOf], by simp [usersOf]⟩
  | some x =>
    obtain ⟨k, _, hk, _⟩ := ndAt_some hx
    have := (h k x hk).2.2
    show (0 : Int) ≤ (x.users : Int) ∧ (x.users : Int) ≤ (n : Int)
    omega
/-- What do leaves here. -/
def DoX (w w' : World) (p g : Nat) (T : TB) (n : Nat) (o : Op12) (E : Int) : Prop := ∃ T', Counts T T' o E ∧ LS w w' p g T' (n + 1) (nmA T) (usA T)
theorem do_ls {w wr W1 : World} {p g : Nat} {T : TB} {n : Nat} (H : LT w wr p g T n) (hn : n ≤ 1000) (o : Op12) (ho : o.ok) (hd : o.data.length ≤ 5000) {cs : Array Value} {t : TypeId} (hW : W1 = wr.alloc (.cells cs t)) :
    Calls Try.prog 16 #[.pointer (some ⟨p, 0, none⟩), .agg #[.int .i64 o.ask, .int .i64 o.b, .int .i64 o.at', .int .i64 o.n, .string (BA o.data)]] W1 fun e w' => ∃ (N : Int) (s : ByteArray) (E : Int), e = .returned (.tuple #[.int .i64 N, .string s, .int .i64 E]) ∧ Hid (Blk w' wr.heap.size t cs ∧ DoX w w' p g T n o E) := by
  have hb : Below wr.heap.size wr W1 := by rw [hW]; exact (Below.refl _ _).alloc (Nat.le_refl _) _
  have kb : Blk W1 wr.heap.size t cs := by rw [hW]; exact Blk.new _ _ _
  have H1 := LS.below H hb
  have ht : TAt W1 p (fun k => LX w g k ∧ k ≠ wr.heap.size) T 100 := (H.tab.mono (Y := fun k => LX w g k ∧ k ≠ wr.heap.size) (fun k hk e => ⟨e, by omega⟩)).below hb
  refine (do_any ht H.gd (by omega) (fun j hj => ⟨H1.closed j hj, by have := kb.lt; omega⟩) o ho hd).mono ?_
  rintro e w' ⟨N, s, E, h1, T', h2, h3, h4⟩
  exact ⟨N, BA s, E, h1, hide ⟨kb.grownS h4 (fun e => e.2 rfl), T', counts_of h2, H1.turn (h3.mono (fun k _ e => e.1)) (h4.mono (fun k _ e => e.1)) (good_do H.gd h2) (by rw [len_do h2]; exact H.len)⟩⟩
/-- How many blocks the bytes of the first nodes want. -/
def needTo (T : TB) : Nat → Nat
  | 0 => 0
  | i + 1 => needTo T i + needN (ndAt T ((i : Int) + 1))
theorem needTo_all (T : TB) : needTo T 5 = needT T := by
  show 0 + needN (ndAt T 1) + needN (ndAt T 2) + needN (ndAt T 3) + needN (ndAt T 4) + needN (ndAt T 5) = _
  unfold needT
  omega
theorem needTo_le {T : TB} {n : Nat} (h : TGood T n) : ∀ i, needTo T i ≤ 64 * i
  | 0 => Nat.le_refl _
  | i + 1 => by
    have := needTo_le h i
    have h2 : needN (ndAt T ((i : Int) + 1)) ≤ 64 := by
      unfold needN
      cases hx : ndAt T ((i : Int) + 1) with
      | none => simp [sizeOfN]
      | some x =>
        obtain ⟨k, _, hk, _⟩ := ndAt_some hx
        have := (h k x hk).1.size
        show (x.size + 63) / 64 ≤ 64
        omega
    show needTo T i + _ ≤ _
    omega
theorem LS.start {w w1 W : World} {p : Nat} (h1 : TAt w1 p (fun k => w.heap.size ≤ k) (List.replicate 5 none) 100) (h2 : Below w.heap.size w w1) (hW : W = (w1.alloc (.cells (arr (fun _ => 0)) 55)).alloc (.cells (arr (fun _ => 0)) 55)) : LT w W p w1.heap.size (List.replicate 5 none) 0 := by
  have hb : Below w1.heap.size w1 W := by rw [hW]; exact ((Below.refl _ _).alloc (Nat.le_refl _) _).alloc (by simp) _
  have e : nmA (List.replicate 5 none) = fun _ => 0 := by
    funext j
    unfold nmA
    cases hx : ndAt (List.replicate 5 none) (j : Int) with
    | none => rfl
    | some x =>
      obtain ⟨k, _, hk, _⟩ := ndAt_some hx
      exact absurd hk (by rw [List.getElem?_replicate]; split <;> simp)
  have e2 : usA (List.replicate 5 none) = fun _ => 0 := by
    funext j
    unfold usA
    cases hx : ndAt (List.replicate 5 none) (j : Int) with
    | none => rfl
    | some x =>
      obtain ⟨k, _, hk, _⟩ := ndAt_some hx
      exact absurd hk (by rw [List.getElem?_replicate]; split <;> simp)
  have hsz := h2.size
  unfold LT
  rw [e, e2]
  refine ⟨(h1.mono (Y := LX w w1.heap.size) (fun k hk e => ⟨e, by omega, by omega⟩)).below hb, good_new _ _, by simp, h2.trans (hb.mono hsz), hsz, by rw [hW]; simp, ?_, ?_⟩
  · rw [hW]
    exact (Blk.new _ _ _).alloc _
  · rw [hW]
    have := Blk.new (w1.alloc (.cells (arr (fun _ => 0)) 55)) 55 (arr (fun _ => 0))
    simpa using this

theorem LS.mono {w wr : World} {p g : Nat} {T : TB} {n m : Nat} {f u : Nat → Int} (H : LS w wr p g T n f u) (h : n ≤ m) : LS w wr p g T m f u :=
  ⟨H.tab, H.gd.mono h, H.len, H.bel, H.lo, H.hi, H.nm, H.us⟩
/-- One node is taken back, the others stay. -/
def Others (T T' : TB) (k : Nat) : Prop := ∀ t : Int, t ≠ (k : Int) → ndAt T' t = ndAt T t
theorem others_set {T : TB} {k : Nat} {o : Option Nd} (h : k < T.length) : Others T (T.set k o) (k + 1) := fun t ht => by rw [ndAt_set h, if_neg (by omega)]
/-- A node that is there has a user. -/
def Busy (T : TB) (k : Nat) : Prop := ndAt T (k : Int) = none ∨ ∃ y, ndAt T (k : Int) = some y ∧ 1 ≤ y.users
theorem LS.hold {w wr : World} {p g : Nat} {T : TB} {n : Nat} (H : LT w wr p g T n) (hn : n ≤ 1000) {k : Nat} {y : Nd} (hk : ndAt T (k : Int) = some y) (hk5 : k ≤ 5) :
    Calls Try.prog 26 #[.pointer (some ⟨p, 0, none⟩), .int .i64 (k : Int)] wr fun e w' => e = .returned (.int .i64 0) ∧ (w'.cell? ⟨g + 1, k, none⟩ = some (.int .i64 (usA T k)) ∧ w'.frozen? ⟨g + 1, k, none⟩ = false) ∧ Hid (∃ T', LT w (w'.setCell ⟨g + 1, k, none⟩ (.int .i64 (usA T k + 1))) p g T' (n + 1) ∧ Others T T' k ∧ Busy T' k) := by
  refine (thold_any H.tab (k : Int) (by omega) (fun i x hx => Nat.le_trans (H.gd i x hx).2.2 (by omega))).mono ?_
  rintro e w' ⟨h1, h2, h3⟩
  have hC := counts_of (T := T) (free := 0) (o := ⟨3, (k : Int), 0, 0, []⟩) (DoSp.hold rfl)
  obtain ⟨i, hki, hti, hil⟩ := ndAt_some hk
  have e1 : tieE T (k : Int) = 0 := by unfold tieE; rw [hk]
  have e2 : holdT T (k : Int) = T.set i (some (holdN y)) := by unfold holdT; rw [hk, hki, plc_of]
  obtain ⟨k', hk', _, _, c1, c2⟩ := hC.hold e1 rfl
  have hkk : k' = k := by have : (k : Int) = (k' : Int) := hk'; omega
  subst hkk
  have c1 : usA (holdT T (k' : Int)) = updA (usA T) k' (usA T k' + 1) := c1
  have c2 : nmA (holdT T (k' : Int)) = nmA T := c2
  have hL := LS.turn H h2 h3 (good_hold H.gd _) (by rw [e2, List.length_set]; exact H.len)
  refine ⟨by rw [h1, e1], ⟨hL.us.cell k' (arr_get _ (by omega)), hL.us.frozen k'⟩, hide ⟨holdT T (k' : Int), ?_, ?_, .inr ⟨holdN y, ?_, by show 1 ≤ y.users + 1; omega⟩⟩⟩
  · unfold LT
    rw [c1, c2]
    exact hL.setU (by omega) _
  · rw [e2]
    have := others_set (T := T) (k := i) (o := some (holdN y)) hil
    rwa [show i + 1 = k' by omega] at this
  · rw [e2, ndAt_set hil, if_pos (by omega)]
theorem LS.untie {w wr : World} {p g : Nat} {T : TB} {n : Nat} (H : LT w wr p g T n) (hn : n ≤ 1000) {k : Nat} {y : Nd} (hk : ndAt T (k : Int) = some y) (hk5 : k ≤ 5) (hy : 1 ≤ y.names) (hu : 1 ≤ y.users) :
    Calls Try.prog 27 #[.pointer (some ⟨p, 0, none⟩), .int .i64 (k : Int)] (wr.setCell ⟨g, k, none⟩ (.int .i64 (nmA T k - 1))) fun e w' => e = .returned (.int .i64 0) ∧ Hid (∃ T', LT w w' p g T' n ∧ Others T T' k ∧ Busy T' k ∧ nmA T' k = nmA T k - 1) := by
  have H1 := LS.setN H (k := k) (by omega) (nmA T k - 1)
  refine (tuntie_any H1.tab (k : Int) (by omega) (fun i x hx => Nat.le_trans (H.gd i x hx).2.1 (by omega))).mono ?_
  rintro e w' ⟨h1, h2, h3⟩
  have hC := counts_of (T := T) (free := 0) (o := ⟨2, (k : Int), 0, 0, []⟩) (DoSp.untie rfl)
  obtain ⟨i, hki, hti, hil⟩ := ndAt_some hk
  have e1 : untE T (k : Int) = 0 := by unfold untE; rw [hk]; simp; omega
  have e2 : untT T (k : Int) = T.set i (some (untN y)) := by
    unfold untT
    rw [hk, hki, plc_of]
    dsimp only
    rw [if_neg (by omega)]
    unfold leftN
    rw [if_neg (fun h => by have : y.users = 0 := h.2; omega)]
  obtain ⟨k', hk', _, _, c1, c2⟩ := hC.untie e1 rfl
  have hkk : k' = k := by have : (k : Int) = (k' : Int) := hk'; omega
  subst hkk
  have c1 : nmA (untT T (k' : Int)) = updA (nmA T) k' (nmA T k' - 1) := c1
  have c2 : usA (untT T (k' : Int)) = usA T := c2
  refine ⟨by rw [h1, e1], hide ⟨untT T (k' : Int), ?_, ?_, .inr ⟨untN y, ?_, hu⟩, by rw [c1]; exact if_pos rfl⟩⟩
  · unfold LT
    rw [c1, c2]
    exact LS.turn H1 h2 h3 (good_unt H.gd _) (by rw [e2, List.length_set]; exact H.len)
  · rw [e2]
    have := others_set (T := T) (k := i) (o := some (untN y)) hil
    rwa [show i + 1 = k' by omega] at this
  · rw [e2, ndAt_set hil, if_pos (by omega)]
theorem LS.loose {w wr : World} {p g : Nat} {T : TB} {n : Nat} (H : LT w wr p g T n) (hn : n ≤ 1000) {k : Nat} {y : Nd} (hk : ndAt T (k : Int) = some y) (hk5 : k ≤ 5) (hy : y.names = 0) (hu : 1 ≤ y.users) :
    Calls Try.prog 28 #[.pointer (some ⟨p, 0, none⟩), .int .i64 (k : Int)] (wr.setCell ⟨g + 1, k, none⟩ (.int .i64 (usA T k - 1))) fun e w' => e = .returned (.int .i64 0) ∧ Hid (∃ T', LT w w' p g T' n ∧ Others T T' k ∧ Busy T' k ∧ usA T' k = usA T k - 1 ∧ nmA T' k = 0) := by
  have H1 := LS.setU H (k := k) (by omega) (usA T k - 1)
  refine (tloose_any H1.tab (k : Int) (by omega) (fun i x hx => Nat.le_trans (H.gd i x hx).2.2 (by omega))).mono ?_
  rintro e w' ⟨h1, h2, h3⟩
  have hC := counts_of (T := T) (free := 0) (o := ⟨4, (k : Int), 0, 0, []⟩) (DoSp.loose rfl)
  obtain ⟨i, hki, hti, hil⟩ := ndAt_some hk
  have e1 : looE T (k : Int) = 0 := by unfold looE; rw [hk]; simp; omega
  have e2 : looT T (k : Int) = T.set i (leftN (looN y)) := by
    unfold looT
    rw [hk, hki, plc_of]
    dsimp only
    rw [if_neg (by omega)]
  obtain ⟨k', hk', _, _, c1, c2⟩ := hC.loose e1 rfl
  have hkk : k' = k := by have : (k : Int) = (k' : Int) := hk'; omega
  subst hkk
  have c1 : usA (looT T (k' : Int)) = updA (usA T) k' (usA T k' - 1) := c1
  have c2 : nmA (looT T (k' : Int)) = nmA T := c2
  refine ⟨by rw [h1, e1], hide ⟨looT T (k' : Int), ?_, ?_, ?_, by rw [c1]; exact if_pos rfl, ?_⟩⟩
  · unfold LT
    rw [c1, c2]
    exact LS.turn H1 h2 h3 (good_loo H.gd _) (by rw [e2, List.length_set]; exact H.len)
  · rw [e2]
    have := others_set (T := T) (k := i) (o := leftN (looN y)) hil
    rwa [show i + 1 = k' by omega] at this
  · have e3 : ndAt (looT T (k' : Int)) (k' : Int) = leftN (looN y) := by rw [e2, ndAt_set hil, if_pos (by omega)]
    unfold Busy
    rw [e3]
    unfold leftN
    split
    · exact .inl rfl
    · rename_i h
      refine .inr ⟨looN y, rfl, ?_⟩
      have h5 : ¬ (y.names = 0 ∧ y.users - 1 = 0) := h
      show 1 ≤ y.users - 1
      omega
  · rw [c2]
    unfold nmA
    rw [hk]
    show ((y.names : Nat) : Int) = 0
    omega

end Go.Proofs.Ytcfhgjlihifmnaa

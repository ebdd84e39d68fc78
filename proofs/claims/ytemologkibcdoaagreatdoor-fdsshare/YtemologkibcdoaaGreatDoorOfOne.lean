/-
  Files (stage 14), without memory: a tree of one file.
-/
import Derived.Test.YtemologkibcdoaaGreatDoorM30
namespace Go.Proofs.YtemologkibcdoaaGreatDoor
open Go.RowKit Go.Maps

theorem cnt_full {h : Nat → Bool} {k : Nat} (hk : k < 64) (hn : h k = false) : cnt h < 64 := by
  have h1 := cnt_upd h k true hk
  rw [hn] at h1
  have h3 : cnt (fun j => if j = k then true else h j) + 0 = cnt h + 1 := h1
  have h2 := cnt_le (fun j => if j = k then true else h j)
  omega
/-- A tree with the root, and one file, which has the name a. -/
def nR : Nd := tieN (nd0 2)
def oneS (R : TB) (L : List Nm) (par : Int → Int) (x : Nd) : NS := ⟨some nR :: some x :: R, L, par⟩
theorem one_nd (R : TB) (L : List Nm) (par : Int → Int) (x : Nd) : ndAt (oneS R L par x).T 2 = some x := rfl
theorem one_kd (R : TB) (L : List Nm) (par : Int → Int) (x : Nd) : kdI (oneS R L par x).T 2 = x.kind := rfl
theorem one_fil {R : TB} {L : List Nm} {par : Int → Int} {x : Nd} (h : x.kind = 1) : filE (oneS R L par x) 2 = 0 := by
  unfold filE
  rw [one_kd, h]
  rfl
theorem one_used {R : TB} (hR : usedT R = 0) (L : List Nm) (par : Int → Int) (x : Nd) : usedT (oneS R L par x).T = cnt x.has := by
  have : cnt nR.has = 0 := by kernel_rfl
  unfold usedT at hR
  show (List.map usd (some nR :: some x :: R)).sum = _
  rw [List.map_cons, List.map_cons, List.sum_cons, List.sum_cons, hR]
  show cnt nR.has + (cnt x.has + 0) = _
  omega
theorem datOf_put {x : Nd} {d : List UInt8} : datOf (putN x x.size d d.length) = datOf x ++ d := by
  have hs : (putN x x.size d d.length).size = x.size + d.length := by
    show Nat.max x.size (x.size + d.length) = _
    exact Nat.max_eq_right (Nat.le_add_right _ _)
  apply List.ext_getElem?
  intro j
  have hl := datOf_len x
  by_cases h1 : j < x.size + d.length
  · rw [datOf_get _ j (by rw [hs]; exact h1)]
    show some (if x.size ≤ j ∧ j < x.size + d.length then d.getD (j - x.size) 0 else x.byt j) = _
    by_cases hj : j < x.size
    · rw [if_neg (by omega), List.getElem?_append_left (by rw [hl]; exact hj), datOf_get _ j hj]
    · rw [if_pos ⟨by omega, h1⟩, List.getElem?_append_right (by rw [hl]; omega), hl, List.getD_eq_getElem?_getD, List.getElem?_eq_getElem (by omega)]
      rfl
  · rw [List.getElem?_eq_none (by rw [datOf_len, hs]; omega), List.getElem?_eq_none (by rw [List.length_append, hl]; omega)]
/-- What is written behind all that there is is there. -/
theorem one_write {R : TB} (hR : usedT R = 0) {L : List Nm} {par : Int → Int} {x : Nd} (hk : x.kind = 1) {d : List UInt8} (hd : x.size + d.length ≤ 4096) {N E : Int} {s' : NS} (h : WrtSp (oneS R L par x) 64 2 (x.size : Int) d N E s') : N = (d.length : Int) ∧ E = 0 ∧ ∃ y, s' = oneS R L par y ∧ y.kind = 1 ∧ y.names = x.names ∧ y.users = x.users ∧ datOf y = datOf x ++ d := by
  rcases h with ⟨h1, _⟩ | ⟨_, T', h, rfl⟩
  · exact absurd (one_fil hk) h1
  · rw [one_used hR] at h
    have hcl := cnt_le x.has
    cases h with
    | none h => rw [one_nd] at h; cases h
    | arg y hy ha => exact absurd ha (by omega)
    | empty y hy ha hd0 =>
      subst hd0
      exact ⟨rfl, rfl, x, rfl, hk, rfl, rfl, by simp⟩
    | big y hy ha hd0 =>
      have : d.length = 0 := by omega
      exact absurd (List.eq_nil_of_length_eq_zero this) hd0
    | space y a hy ha hl hd0 hp =>
      rw [one_nd] at hy
      injection hy with hy
      subst hy
      have h0 : d.length ≠ 0 := fun e => hd0 (List.eq_nil_of_length_eq_zero e)
      rcases hp.ends with e | ⟨e1, e2, _⟩
      · omega
      · rw [hasP_zero] at e1
        have := cnt_full (k := (a + 0) / 64) (by omega) e2
        omega
    | done y a n hy ha hl hd0 hn hp =>
      rw [one_nd] at hy
      injection hy with hy
      subst hy
      have ha2 : x.size = a := by omega
      subst ha2
      have hnd : n = d.length := by
        have h1 := hp.le
        have h2 := hp.max
        rcases hp.ends with e | ⟨e1, e2, e3⟩
        · omega
        · by_cases hb : x.size + n < 4096
          · have hf : hasP x.has x.size n ((x.size + n) / 64) = false := by
              unfold hasP
              rw [e2]
              have : ¬ 64 * ((x.size + n) / 64) < x.size + n := by omega
              simp [this]
            have := cnt_full (k := (x.size + n) / 64) (by omega) hf
            omega
          · omega
      subst hnd
      exact ⟨rfl, rfl, putN x x.size d d.length, rfl, hk, rfl, rfl, datOf_put⟩
/-- What is read. -/
theorem one_read {R : TB} {L : List Nm} {par : Int → Int} {x : Nd} (hk : x.kind = 1) {a : Nat} {m : Int} : nrdE (oneS R L par x) 2 (a : Int) m = (if m < 0 then 1 else 0) ∧ nrdT (oneS R L par x) 2 (a : Int) m = (if m < 0 then [] else ((datOf x).drop a).take m.toNat) := by
  unfold nrdE nrdT
  rw [one_fil hk, if_pos rfl, if_pos rfl]
  unfold rdE rdT
  rw [one_nd]
  dsimp only
  by_cases hm : m < 0
  · have h : (a : Int) < 0 ∨ m < 0 := .inr hm
    rw [if_pos h, if_pos h, if_pos hm, if_pos hm]
    exact ⟨rfl, rfl⟩
  · have h : ¬ ((a : Int) < 0 ∨ m < 0) := by omega
    rw [if_neg h, if_neg h, if_neg hm, if_neg hm]
    exact ⟨rfl, rfl⟩
/-- The chapter's tree, and its files. -/
def parA : Int → Int := parU (rootS 3).par 2 1
def LA : List Nm := [⟨1, [97], 2⟩]
def ndA (u : Nat) : Nd := { tieN (nd0 1) with users := u }
theorem ndA_dat (u : Nat) : datOf (ndA u) = [] := rfl
/-- A tree of the root alone, and the one that Open makes of it. -/
structure First (m : Nat) (R : TB) : Prop where
  walk : walkN (rootS m) 1 [97] true = (0, 23)
  room : roomN (rootS m) 1 [97] = (1, [97], 0)
  make : makeE (rootS m).T 1 = 0 ∧ makeN (rootS m).T 1 = 2
  one : (⟨tieT (makeT (rootS m).T 1) 2, putL (rootS m).L ⟨1, [97], 2⟩, parU (rootS m).par 2 1⟩ : NS) = oneS R LA parA (ndA 0)
  used : usedT R = 0
theorem first3 : First 3 [none] := ⟨by kernel_rfl, by kernel_rfl, ⟨by kernel_rfl, by kernel_rfl⟩, by rfl, rfl⟩
theorem first9 : First 9 (List.replicate 7 none) := ⟨by kernel_rfl, by kernel_rfl, ⟨by kernel_rfl, by kernel_rfl⟩, by rfl, rfl⟩
theorem fo_hold (R : TB) (L : List Nm) (par : Int → Int) (x : Nd) : ({ oneS R L par x with T := holdT (oneS R L par x).T 2 } : NS) = oneS R L par { x with users := x.users + 1 } := rfl
theorem fo_walk1 (R : TB) (par : Int → Int) (x : Nd) (hk : x.kind = 1) : walkN (oneS R LA par x) 1 [97] true = (2, 0) := by
  obtain ⟨k, s, a, b, c, e⟩ := x
  simp only at hk
  subst hk
  rfl
theorem fo_isD (R : TB) (L : List Nm) (par : Int → Int) (x : Nd) (hk : x.kind = 1) : isD (oneS R L par x) 2 = false := by
  show decide (x.kind = 2) = false
  rw [hk]
  rfl
theorem fo_first {m nb : Nat} {R : TB} (F : First m R) {fl E : Int} {o : Option Fl} {s' : NS} (h : OpSp (rootS m) nb 1 [97] fl o E s') (hb : badF fl = false) (h8 : hasF fl 8 = true) (h18 : hasF fl 18 = false) : E = 0 ∧ o = some ⟨false, 2, 0, fl⟩ ∧ s' = oneS R LA parA (ndA 1) := by
  obtain ⟨e1, e2, e3⟩ := op_made h hb (by rw [F.walk]) h8 (by rw [F.room]) F.make.1
  rw [F.make.2] at e2 e3
  rw [F.room] at e3
  refine ⟨e1, e2, e3.trans ?_⟩
  show opS (⟨tieT (makeT (rootS m).T 1) 2, putL (rootS m).L ⟨1, [97], 2⟩, parU (rootS m).par 2 1⟩ : NS) 2 fl = _
  rw [F.one]
  unfold opS
  rw [h18]
  exact fo_hold _ _ _ _
theorem fo_again {nb : Nat} {R : TB} {fl E : Int} {o : Option Fl} {s' : NS} {par : Int → Int} {x : Nd} (hk : x.kind = 1) (h : OpSp (oneS R LA par x) nb 1 [97] fl o E s') (hb : badF fl = false) (h40 : hasF fl 40 = false) (h18 : hasF fl 18 = false) : E = 0 ∧ o = some ⟨false, 2, 0, fl⟩ ∧ s' = oneS R LA par { x with users := x.users + 1 } := by
  obtain ⟨e1, e2, e3⟩ := op_found h hb (fo_walk1 R par x hk) h40 (fo_isD _ _ _ _ hk)
  refine ⟨e1, e2, e3.trans ?_⟩
  unfold opS
  rw [h18]
  exact fo_hold _ _ _ _

theorem open_first {w : World} {f q nb n m : Nat} {B : Bas} {Y : Nat → Prop} {R : TB} (H : FX w f q Y (rootS m) nb n B) (F : First m R) (hn : n ≤ 9000) (fl : Int) (hb : badF fl = false) (h8 : hasF fl 8 = true) (h18 : hasF fl 18 = false) : Calls Tryz.prog 42 #[.pointer (some ⟨f, 0, none⟩), .int .i64 1, .string (BA [97]), .int .i64 fl] w fun e w' => ∃ b, e = .returned (.tuple #[.pointer (some ⟨b, 0, none⟩), .int .i64 0]) ∧ Hid (∃ Y', GX w' f q Y' (oneS R LA parA (ndA 1)) nb (n + 3) B [(b, ⟨false, 2, 0, fl⟩)]) :=
  (fopen_any (GX.nil H) hn 1 [97] fl (by decide) (by decide)).mono (fun e w' h => by
    obtain ⟨o, E, pt, e1, h2⟩ := h
    obtain ⟨s', h3, h4⟩ := unhide h2
    obtain ⟨e4, e5, e6⟩ := fo_first F h3 hb h8 h18
    subst e4 e6
    rcases h4 with ⟨h5, _⟩ | ⟨x, b, Y', h5, h6, h7, _⟩
    · rw [h5] at e5; cases e5
    · rw [h5] at e5
      injection e5 with e5
      subst e5 h6
      exact ⟨b, e1, hide ⟨Y', h7⟩⟩)
theorem open_again {w : World} {f q nb n : Nat} {B : Bas} {Y : Nat → Prop} {R : TB} {par : Int → Int} {x : Nd} {l : List (Nat × Fl)} (H : GX w f q Y (oneS R LA par x) nb n B l) (hk : x.kind = 1) (hn : n ≤ 9000) (fl : Int) (hb : badF fl = false) (h40 : hasF fl 40 = false) (h18 : hasF fl 18 = false) : Calls Tryz.prog 42 #[.pointer (some ⟨f, 0, none⟩), .int .i64 1, .string (BA [97]), .int .i64 fl] w fun e w' => ∃ b, e = .returned (.tuple #[.pointer (some ⟨b, 0, none⟩), .int .i64 0]) ∧ Hid (∃ Y', GX w' f q Y' (oneS R LA par { x with users := x.users + 1 }) nb (n + 3) B (l ++ [(b, ⟨false, 2, 0, fl⟩)])) :=
  (fopen_any H hn 1 [97] fl (by decide) (by decide)).mono (fun e w' h => by
    obtain ⟨o, E, pt, e1, h2⟩ := h
    obtain ⟨s', h3, h4⟩ := unhide h2
    obtain ⟨e4, e5, e6⟩ := fo_again hk h3 hb h40 h18
    subst e4 e6
    rcases h4 with ⟨h5, _⟩ | ⟨y, b, Y', h5, h6, h7, _⟩
    · rw [h5] at e5; cases e5
    · rw [h5] at e5
      injection e5 with e5
      subst e5 h6
      exact ⟨b, e1, hide ⟨Y', h7⟩⟩)
theorem open_there {w : World} {f q nb n : Nat} {B : Bas} {Y : Nat → Prop} {R : TB} {par : Int → Int} {x : Nd} {l : List (Nat × Fl)} (H : GX w f q Y (oneS R LA par x) nb n B l) (hk : x.kind = 1) (hn : n ≤ 9000) (fl : Int) (hb : badF fl = false) (h40 : hasF fl 40 = true) : Calls Tryz.prog 42 #[.pointer (some ⟨f, 0, none⟩), .int .i64 1, .string (BA [97]), .int .i64 fl] w fun e w' => e = .returned (.tuple #[.pointer none, .int .i64 22]) ∧ Hid (GX w' f q Y (oneS R LA par x) nb (n + 3) B l) :=
  (fopen_any H hn 1 [97] fl (by decide) (by decide)).mono (fun e w' h => by
    obtain ⟨o, E, pt, e1, h2⟩ := h
    obtain ⟨s', h3, h4⟩ := unhide h2
    obtain ⟨e4, e5, e6⟩ := op_there h3 hb (fo_walk1 R par x hk) h40
    subst e4 e6
    rcases h4 with ⟨h5, h6, h7⟩ | ⟨y, b, Y', h5, h6, h7, _⟩
    · subst h6
      exact ⟨e1, hide h7⟩
    · rw [h5] at e5; cases e5)
theorem one_xwrA {R : TB} {L : List Nm} {par : Int → Int} {x : Nd} (hk : x.kind = 1) {X : Fl} (hn : X.node = 2) (ha : hasF X.fl 4 = true ∨ X.at' = (x.size : Int)) : xwrA (oneS R L par x) X = (x.size : Int) := by
  unfold xwrA endA
  rw [hn, one_kd, hk]
  cases h4 : hasF X.fl 4 with
  | true =>
    rw [if_pos rfl, if_neg (by decide)]
    unfold statZ
    rw [one_kd, hk, if_neg (by decide), one_nd]
    rfl
  | false =>
    rcases ha with h | h
    · rw [h4] at h; cases h
    · rw [if_neg (by decide)]
      exact h
theorem refu_ok {x : Fl} {k : Int} (h1 : x.cl = false) (h2 : hasF x.fl k = true) : refuF x k = 0 := by
  unfold refuF
  rw [h1, h2]
  rfl
theorem write_one {w : World} {f q n : Nat} {B : Bas} {Y : Nat → Prop} {R : TB} {L : List Nm} {par : Int → Int} {x : Nd} {l : List (Nat × Fl)} (hR : usedT R = 0) (H : GX w f q Y (oneS R L par x) 64 n B l) {j b : Nat} {X : Fl} (hj : l[j]? = some (b, X)) (hk : x.kind = 1) (hnn : n ≤ 9000) (hc : X.cl = false) (hn : X.node = 2) (h2 : hasF X.fl 2 = true) (ha : hasF X.fl 4 = true ∨ X.at' = (x.size : Int)) (d : List UInt8) (hd : x.size + d.length ≤ 4096) : Calls Tryz.prog 227 #[.pointer (some ⟨b, 0, none⟩), .string (BA d)] w fun e w' => e = .returned (.tuple #[.int .i64 (d.length : Int), .int .i64 0]) ∧ Hid (∃ y, y.kind = 1 ∧ y.names = x.names ∧ y.users = x.users ∧ datOf y = datOf x ++ d ∧ GX w' f q Y (oneS R L par y) 64 (n + 1) B (l.set j (b, { X with at' := (x.size : Int) + (d.length : Int) }))) :=
  (xwrite_any H hj (by omega) d (by omega)).mono (fun e w' h => by
    obtain ⟨N, E, e1, h3⟩ := h
    obtain ⟨s', X', h4, h5⟩ := unhide h3
    rcases h4 with ⟨h6, _⟩ | ⟨_, N1, h6, h7, h8⟩
    · exact absurd (refu_ok hc h2) h6
    · rw [hn, one_xwrA hk hn ha] at h6
      obtain ⟨g1, g2, y, g3, g4, g5, g6, g7⟩ := one_write hR hk hd h6
      subst g1 g2
      rw [if_pos rfl] at h7 h8
      rw [one_xwrA hk hn ha] at h8
      subst h7 h8 g3
      exact ⟨e1, hide ⟨y, g4, g5, g6, g7, h5⟩⟩)
theorem read_one {w : World} {f q n : Nat} {B : Bas} {Y : Nat → Prop} {R : TB} {L : List Nm} {par : Int → Int} {x : Nd} {l : List (Nat × Fl)} {nb : Nat} (H : GX w f q Y (oneS R L par x) nb n B l) {j b : Nat} {X : Fl} (hj : l[j]? = some (b, X)) (hk : x.kind = 1) (hc : X.cl = false) (hn : X.node = 2) (h1 : hasF X.fl 1 = true) {a : Nat} (ha : X.at' = (a : Int)) (m : Int) : Calls Tryz.prog 226 #[.pointer (some ⟨b, 0, none⟩), .int .i64 m] w fun e w' => e = .returned (.tuple #[.string (BA (if m < 0 then [] else ((datOf x).drop a).take m.toNat)), .int .i64 (if m < 0 then 1 else 0)]) ∧ Hid (GX w' f q Y (oneS R L par x) nb n B (l.set j (b, { X with at' := (a : Int) + ((if m < 0 then [] else ((datOf x).drop a).take m.toNat).length : Int) }))) :=
  (xread_any H hj m).mono (fun e w' h => by
    obtain ⟨e1, h2⟩ := h
    have hr := refu_ok hc h1
    obtain ⟨o1, o2⟩ := one_read (R := R) (L := L) (par := par) hk (a := a) (m := m)
    have hE : xrdE (oneS R L par x) X m = (if m < 0 then 1 else 0) := by
      unfold xrdE
      rw [hr, if_neg (by decide), hn, ha, o1]
    have hT : xrdT (oneS R L par x) X m = (if m < 0 then [] else ((datOf x).drop a).take m.toNat) := by
      unfold xrdT
      rw [hr, hn, ha, o1, o2]
      by_cases hm : m < 0
      · simp only [if_pos hm]
        rw [if_pos (show ((0 : Int) ≠ 0 ∨ (1 : Int) ≠ 0) from .inr (by decide))]
      · simp only [if_neg hm]
        rw [if_neg (show ¬ ((0 : Int) ≠ 0 ∨ (0 : Int) ≠ 0) by decide)]
    unfold xrdX at h2
    rw [hT, ha] at h2
    rw [hE, hT] at e1
    exact ⟨e1, h2⟩)

end Go.Proofs.YtemologkibcdoaaGreatDoor

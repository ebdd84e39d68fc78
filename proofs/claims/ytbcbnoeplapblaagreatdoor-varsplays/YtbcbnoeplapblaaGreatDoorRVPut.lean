/-
  The document's put.
-/
import Derived.Test.YtbcbnoeplapblaaGreatDoorRVMem
import Derived.Laws.Cover1
import Derived.BigQuiet
namespace Go.Proofs.YtbcbnoeplapblaaGreatDoor
open Go.RowKit Go.Maps

theorem und_dvars : Tryz.prog.underlying 30 = some (.slice 62) := by kernel_rfl
theorem info_dvar : (Tryz.prog.info? 62).map (fun i => (i.zero, i.size, i.bytes)) = some (some vr0.val, 5, 40) := by kernel_rfl
/-- What put makes of the variables from a place on; whether x stands there already. -/
def rpl (x : Vr) : Bool → List Vr → List Vr
  | d, [] => if d then [] else [x]
  | d, y :: L => (if !d && bytesBefore x.name y.name then [x] else []) ++ ((if y.name == x.name then [] else [y]) ++ rpl x (d || bytesBefore x.name y.name) L)
theorem rpl_true (x : Vr) : ∀ L : List Vr, rpl x true L = delL L x.name
  | [] => rfl
  | y :: L => by
    have ih := rpl_true x L
    show ([] : List Vr) ++ ((if y.name == x.name then [] else [y]) ++ rpl x true L) = _
    unfold delL at ih ⊢
    rw [ih]
    by_cases h : y.name = x.name
    · rw [if_pos (by simpa using h), List.filter_cons_of_neg (by simp [h])]
      rfl
    · rw [if_neg (by simpa using h), List.filter_cons_of_pos (by simp [h])]
      rfl
theorem rpl_false (x : Vr) : ∀ L : List Vr, rpl x false L = putL L x
  | [] => rfl
  | y :: L => by
    have ih := rpl_false x L
    unfold putL at ih ⊢
    show (if bytesBefore x.name y.name then [x] else []) ++ ((if y.name == x.name then [] else [y]) ++ rpl x (bytesBefore x.name y.name) L) = _
    cases hb : bytesBefore x.name y.name with
    | true =>
      have hne : y.name ≠ x.name := fun e => by rw [e, lt_irr] at hb; cases hb
      rw [rpl_true, if_pos rfl, if_neg (by simpa using hne)]
      unfold delL
      rw [List.filter_cons_of_pos (by simp [hne]), insL, if_pos hb]
      rfl
    | false =>
      rw [ih, if_neg (by simp)]
      by_cases h : y.name = x.name
      · rw [if_pos (by simpa using h)]
        unfold delL
        rw [List.filter_cons_of_neg (by simp [h])]
        rfl
      · rw [if_neg (by simpa using h)]
        unfold delL
        rw [List.filter_cons_of_pos (by simp [h]), insL, if_neg (by simp [hb])]
        rfl
theorem less_no : ∀ {a b : List UInt8}, bytesBefore a b = true → Op.bytesLess b a = false
  | [], _, _ => by cases ‹List UInt8› <;> rfl
  | _ :: _, [], h => by cases h
  | x :: a, y :: b, h => by
    rw [bytesBefore, Bool.or_eq_true, Bool.and_eq_true, beq_iff_eq, decide_eq_true_eq] at h
    rw [Op.bytesLess]
    rcases h with h | ⟨rfl, h⟩
    · have h1 : ¬ y < x := fun e => UInt8.lt_asymm h e
      have h2 : (y == x) = false := by rw [beq_eq_false_iff_ne]; exact fun e => UInt8.lt_irrefl x (by rw [e] at h; exact h)
      simp [h1, h2]
    · have h1 : ¬ x < x := UInt8.lt_irrefl x
      simp [h1, less_no h]
theorem less_yes : ∀ {a b : List UInt8}, bytesBefore a b = false → b ≠ a → Op.bytesLess b a = true
  | [], [], _, hn => absurd rfl hn
  | [], _ :: _, h, _ => by cases h
  | _ :: _, [], _, _ => rfl
  | x :: a, y :: b, h, hn => by
    rw [bytesBefore, Bool.or_eq_false_iff, decide_eq_false_iff_not] at h
    rw [Op.bytesLess]
    by_cases e : y = x
    · subst e
      have h2 : bytesBefore a b = false := by simpa using h.2
      have := less_yes h2 (fun e => hn (by rw [e]))
      simp [this]
    · have : y < x := UInt8.lt_of_le_of_ne (UInt8.not_lt.1 h.1) e
      simp [this]
/-- How far put is: what it has made, in a row of its own. -/
structure PIn (w : World) (X : Obj) (wr : World) (ov : Value) (O : List Vr) : Prop where
  row : wr.ownsRow (w.heap.size + 1) 62 5 ov O.length (flatV O)
  below : Below (w.heap.size + 1) (w.alloc X) wr
theorem PIn.under {w : World} {X : Obj} {wr : World} {ov : Value} {O : List Vr} (h : PIn w X wr ov O) : Below w.heap.size w wr := ((Below.refl _ w).alloc (Nat.le_refl _) X).trans (h.below.mono (Nat.le_succ _))
theorem PIn.old {w : World} {X : Obj} {wr : World} {ov : Value} {O : List Vr} (h : PIn w X wr ov O) {p : Addr} {v : Value} (hc : w.cell? p = some v) : wr.cell? p = some v := (h.under.cell (p := p) (cell_lt hc)).trans hc
theorem PIn.box {w : World} {X : Obj} {wr : World} {ov : Value} {O : List Vr} (h : PIn w X wr ov O) {j : Nat} {v : Value} (hc : (w.alloc X).cell? ⟨w.heap.size, j, none⟩ = some v) : wr.cell? ⟨w.heap.size, j, none⟩ = some v := (h.below.cell (p := ⟨w.heap.size, j, none⟩) (Nat.lt_succ_self _)).trans hc
theorem PIn.push {w : World} {X B : Obj} {wr w4 : World} {ov v' : Value} {O : List Vr} {x : Vr} (h : PIn w X wr ov O) (ho : w4.ownsRow (w.heap.size + 1) 62 5 v' (O.length + 1) (flatV O ++ [.string (BA x.name), .string (BA x.value), .bool x.set, .bool x.ex, .bool x.ro])) (hg : (wr.alloc B).grownBy w4 ov.ownBlock) : PIn w X w4 v' (O ++ [x]) := by
  refine ⟨?_, ?_⟩
  · rw [flatV_snoc, List.length_append]
    exact ho
  · have hs : w.heap.size + 1 ≤ wr.heap.size := by have := h.below.size; simpa using this
    exact (h.below.alloc hs B).grown hg (by simp; omega) (fun j hj => (World.ownsRow.lt h.row j hj).1)
theorem PIn.drew {w : World} {X : Obj} {wr : World} {ov : Value} {O : List Vr} (h : PIn w X wr ov O) (n : Nat) : PIn w X (wr.drewN n) ov O :=
  ⟨own_grownS h.row (grownS_of_below (S := fun _ => False) (below_drew wr n)) (fun _ _ e => e), h.below.trans ((below_drew wr n).mono (by have := h.below.size; simpa using this))⟩
theorem PIn.shape {w : World} {X : Obj} {wr : World} {ov : Value} {O : List Vr} (h : PIn w X wr ov O) : ∃ ad cap, ov = .slice ad O.length cap := by
  obtain ⟨ad, cap, e, _⟩ := VRow.of h.row rfl
  exact ⟨ad, cap, e⟩
theorem PIn.blk {w : World} {X : Obj} {wr : World} {ov : Value} {O : List Vr} (h : PIn w X wr ov O) {b : Nat} {t : TypeId} {cs : Array Value} (hb : Blk w b t cs) : Blk wr b t cs := hb.grownS (grownS_of_below (S := fun _ => False) h.under) (fun e => e)
theorem PIn.done {w0 w : World} {X : Obj} {wr : World} {ov : Value} {O : List Vr} {b : Nat} {Y : Nat → Prop} {s : VSt} (h : PIn w X wr ov O) (hr : RAt w0 w b Y s) (hY : ∀ k, w.heap.size ≤ k → Y k) : RAt w0 (wr.setCell ⟨b, 0, none⟩ ov) b Y { s with L := O } ∧ GrownS w (wr.setCell ⟨b, 0, none⟩ ov) (fun k => k = b) := by
  obtain ⟨lv, av, hb, _, hl, ha, hc, hs, hy, hB⟩ := hr
  have hg : GrownS wr (wr.setCell ⟨b, 0, none⟩ ov) (fun k => k = b) := GrownS.of (grown_setCell wr _ _) (fun k e => by simpa using e)
  have hown : ∀ k, ov.ownBlock = some k → w.heap.size < k := fun k hk => (World.ownsRow.lt h.row k hk).1
  have hbl := hb.lt
  refine ⟨⟨ov, av, (h.blk hb).set 0 _, (VRow.of h.row rfl).grownS hg (fun k hk _ e => by have := hown k hk; omega), fun k hk => ⟨by have := hown k hk; omega, hY k (Nat.le_of_lt (hown k hk)), Nat.lt_of_lt_of_le (World.ownsRow.lt h.row k hk).2 hg.size⟩, ha, hc, hs, hy, ?_⟩, (grownS_of_below h.under).trans hg⟩
  exact (hB.trans (h.under.mono hB.size)).trans (hg.below (Nat.le_trans hB.size h.under.size) (fun k e => by rw [e]; exact hs))
theorem rpl_E {x y : Vr} {d : Bool} {L : List Vr} (h : y.name = x.name) : rpl x d (y :: L) = rpl x d L := by
  rw [rpl, h, lt_irr]
  simp
theorem rpl_TN {x y : Vr} {L : List Vr} (h : y.name ≠ x.name) : rpl x true (y :: L) = y :: rpl x true L := by
  rw [rpl, if_neg (by simp), if_neg (by simpa using h)]
  rfl
theorem rpl_FG {x y : Vr} {L : List Vr} (h : bytesBefore x.name y.name = true) : rpl x false (y :: L) = x :: y :: rpl x true L := by
  have hne : y.name ≠ x.name := fun e => by rw [e, lt_irr] at h; cases h
  rw [rpl, h, if_pos (by rfl), if_neg (by simpa using hne)]
  rfl
theorem rpl_FS {x y : Vr} {L : List Vr} (h : bytesBefore x.name y.name = false) (hne : y.name ≠ x.name) : rpl x false (y :: L) = y :: rpl x false L := by
  rw [rpl, h, if_neg (by simp), if_neg (by simpa using hne)]
  rfl
theorem less_self : ∀ {a : List UInt8}, Op.bytesLess a a = false
  | [] => rfl
  | x :: a => by
    rw [Op.bytesLess, less_self]
    simp

set_option maxRecDepth 20000 in
set_option maxHeartbeats 8000000 in
theorem rput_set (w0 w : World) (b : Nat) (Y : Nat → Prop) (s : VSt) (xn xv : List UInt8) (fe fr : Bool) (hY : ∀ k, w.heap.size ≤ k → Y k) (h : RAt w0 w b Y s) (hL : s.L.length ≤ 1000) :
    Calls Tryz.prog 49 #[.pointer (some ⟨b, 0, none⟩), .agg #[.string (BA xn), .string (BA xv), .bool true, .bool fe, .bool fr]] w fun e w' => e = .returned (.tuple #[]) ∧ RAt w0 w' b Y { s with L := rpl ⟨xn, xv, true, fe, fr⟩ false s.L } ∧ GrownS w w' (fun k => k = b) := by
  obtain ⟨i0, hi, hz0, hz1, hz2⟩ := info_of info_dvar
  have HR := hide h
  have HY := hide hY
  obtain ⟨lv, av, hb, hrow, _⟩ := h
  clear hY
  obtain ⟨L, hLd⟩ : ∃ L, L = s.L := ⟨_, rfl⟩
  rw [← hLd] at hrow hL ⊢
  clear hLd
  obtain ⟨ad, cap, hlv, hc⟩ := hrow
  obtain ⟨N, hN⟩ : ∃ N, N = L.length := ⟨_, rfl⟩
  rw [← hN] at hlv hL
  subst hlv
  have HN := hide hN
  have hbl := hb.lt
  have HBK := hide hb
  have HC0 := hide (show w.cell? ⟨b, 0, none⟩ = some (.slice ad N cap) from hb.cell 0 rfl)
  have hbx := Blk.new w 62 #[.string (BA xn), .string (BA xv), .bool true, .bool fe, .bool fr]
  have HE := hide (⟨hbx.cell 0 rfl, hbx.cell 1 rfl, hbx.cell 2 rfl, hbx.cell 3 rfl, hbx.cell 4 rfl⟩ : (w.alloc (.cells #[.string (BA xn), .string (BA xv), .bool true, .bool fe, .bool fr] 62)).cell? ⟨w.heap.size, 0, none⟩ = some (.string (BA xn)) ∧ (w.alloc (.cells #[.string (BA xn), .string (BA xv), .bool true, .bool fe, .bool fr] 62)).cell? ⟨w.heap.size, 1, none⟩ = some (.string (BA xv)) ∧ (w.alloc (.cells #[.string (BA xn), .string (BA xv), .bool true, .bool fe, .bool fr] 62)).cell? ⟨w.heap.size, 2, none⟩ = some (.bool true) ∧ (w.alloc (.cells #[.string (BA xn), .string (BA xv), .bool true, .bool fe, .bool fr] 62)).cell? ⟨w.heap.size, 3, none⟩ = some (.bool fe) ∧ (w.alloc (.cells #[.string (BA xn), .string (BA xv), .bool true, .bool fe, .bool fr] 62)).cell? ⟨w.heap.size, 4, none⟩ = some (.bool fr))
  have HC := hide hc
  clear hb hc hN hbx
  go_enter Tryz.func49, Tryz.ntmps49
  go_wp2
  go_loopw [4, 5, 6] (fun ov dv iv wr => ∃ (k : Nat) (d : Bool) (O : List Vr), iv = .int .i64 k ∧ dv = .bool d ∧ k ≤ N ∧ Hid (O.length ≤ 2 * k ∧ PIn w (.cells #[.string (BA xn), .string (BA xv), .bool true, .bool fe, .bool fr] 62) wr ov O ∧ O ++ rpl ⟨xn, xv, true, fe, fr⟩ d (L.drop k) = rpl ⟨xn, xv, true, fe, fr⟩ false L)) (fun _ _ iv _ => N - (intOf iv).toNat)
  case atStart => exact ⟨0, false, [], rfl, rfl, Nat.zero_le _, hide ⟨Nat.le_refl _, ⟨World.ownsRow_nil _ _ _ _, by simpa using Below.refl _ _⟩, rfl⟩⟩
  case round =>
    obtain ⟨k, d, O, rfl, rfl, hk, HI⟩ := hrel
    obtain ⟨hO, hP, hEQ⟩ := unhide HI
    have HP := hide hP
    have HEQ := hide hEQ
    clear hP hEQ HI
    by_cases hlt : k < N
    · have hy : L[k]? = some (L[k]'(by have := unhide HN; omega)) := List.getElem?_eq_getElem _
      obtain ⟨y, hyk⟩ : ∃ y, y = L[k]'(by have := unhide HN; omega) := ⟨_, rfl⟩
      rw [← hyk] at hy
      obtain ⟨g, rfl, hg, dd⟩ := unhide HC k y hy
      have HYK := hide hyk.symm
      have HD := hide dd
      clear hy hyk dd
      have hlt1 : (k : Int) < (N : Int) := by omega
      have hk0 : (0 : Int) ≤ (k : Int) := by omega
      have c0 := (unhide HP).old (unhide HC0)
      have d0 := (unhide HP).old (unhide HD).1
      have d1 := (unhide HP).old (unhide HD).2.1
      have d2 := (unhide HP).old (unhide HD).2.2.1
      have d3 := (unhide HP).old (unhide HD).2.2.2.1
      have d4 := (unhide HP).old (unhide HD).2.2.2.2
      have e0 := (unhide HP).box (unhide HE).1
      have e1 := (unhide HP).box (unhide HE).2.1
      have e2 := (unhide HP).box (unhide HE).2.2.1
      have e3 := (unhide HP).box (unhide HE).2.2.2.1
      have e4 := (unhide HP).box (unhide HE).2.2.2.2
      cases d with
      | true =>
        by_cases hye : y.name = xn
        · have hq : ((BA y.name).toList == (BA xn).toList) = true := by rw [hye]; simp
          have HYE := hide hye
          clear hye
          go_wp2_with fail
          go_quiet (fail)
          go_wp2_with fail
          go_quiet (fail)
          go_wp2
          go_roundw
          case rel => exact ⟨k + 1, true, O, by go_num, rfl, by omega, hide ⟨by first | omega | (simp; omega), (unhide HP).drew _, by rw [← unhide HEQ, List.drop_eq_getElem_cons (l := L) (i := k) (by have := unhide HN; omega), unhide HYK, rpl_E (unhide HYE)]⟩⟩
          case measure => simp [intOf]; omega
        · have hq : ((BA y.name).toList == (BA xn).toList) = false := by rw [BA_toList, BA_toList]; simpa using hye
          have HYE := hide hye
          clear hye
          go_wp2_with fail
          go_quiet (fail)
          go_wp2_with fail
          go_quiet (fail)
          go_wp2_with (first
            | (at_builtin; refine wpList_append_own _ rfl (.tmp 59) (.tmp 67) 30 rfl (w.heap.size + 1) 62 i0 _ 5 40 und_dvars hi hz0 hz1 hz2 rfl (by decide) _ _ _ rfl (World.ownsRow.alloc (unhide HP).row _) ⟨wr.heap.size, 0, none⟩ 1 1 [.string (BA y.name), .string (BA y.value), .bool y.set, .bool y.ex, .bool y.ro] rfl rfl five_cells (by intro u hu; simp at hu; rcases hu with rfl | rfl | rfl | rfl | rfl <;> rfl) ?c3 ?c4 ?c5 ?_)
            | go_in)
          case c3 => unfold maxLen; omega
          case c4 => omega
          case c5 => have := (unhide HP).below.size; simp at this; simp; omega
          intro v' w4 hown' hgrow _
          have HP' := hide (((unhide HP).drew _).push (x := y) hown' hgrow)
          clear hown' hgrow
          go_wp2
          go_roundw
          case rel => exact ⟨k + 1, true, (O ++ [y]), by go_num, rfl, by omega, hide ⟨by first | omega | (simp; omega), unhide HP', by rw [← unhide HEQ, List.drop_eq_getElem_cons (l := L) (i := k) (by have := unhide HN; omega), unhide HYK, rpl_TN (unhide HYE)]; simp⟩⟩
          case measure => simp [intOf]; omega
      | false =>
        by_cases hye : y.name = xn
        · have hq : ((BA y.name).toList == (BA xn).toList) = true := by rw [hye]; simp
          have hls : Op.bytesLess (BA y.name).toList (BA xn).toList = false := by rw [BA_toList, BA_toList, hye]; exact less_self
          have HYE := hide hye
          clear hye
          go_wp2_with fail
          go_quiet (fail)
          go_wp2_with fail
          go_quiet (fail)
          go_wp2
          go_roundw
          case rel => exact ⟨k + 1, false, O, by go_num, rfl, by omega, hide ⟨by first | omega | (simp; omega), (unhide HP).drew _, by rw [← unhide HEQ, List.drop_eq_getElem_cons (l := L) (i := k) (by have := unhide HN; omega), unhide HYK, rpl_E (unhide HYE)]⟩⟩
          case measure => simp [intOf]; omega
        · cases hyb : bytesBefore xn y.name with
          | true =>
            have hq : ((BA y.name).toList == (BA xn).toList) = false := by rw [BA_toList, BA_toList]; simpa using hye
            have hls : Op.bytesLess (BA y.name).toList (BA xn).toList = false := by rw [BA_toList, BA_toList]; exact less_no hyb
            have HYE := hide hye
            have HYB := hide hyb
            clear hye hyb
            go_wp2_with fail
            go_quiet (fail)
            go_wp2_with (first
              | (at_builtin; refine wpList_append_own _ rfl (.tmp 44) (.tmp 46) 30 rfl (w.heap.size + 1) 62 i0 _ 5 40 und_dvars hi hz0 hz1 hz2 rfl (by decide) _ _ _ rfl (World.ownsRow.alloc (unhide HP).row _) ⟨wr.heap.size, 0, none⟩ 1 1 [.string (BA xn), .string (BA xv), .bool true, .bool fe, .bool fr] rfl rfl five_cells (by intro u hu; simp at hu; rcases hu with rfl | rfl | rfl | rfl | rfl <;> rfl) ?c3 ?c4 ?c5 ?_)
              | go_in)
            case c3 => unfold maxLen; omega
            case c4 => omega
            case c5 => have := (unhide HP).below.size; simp at this; simp; omega
            intro v' w4 hown' hgrow _
            have HP1 := hide (((unhide HP).drew _).push (x := ⟨xn, xv, true, fe, fr⟩) hown' hgrow)
            have hO1 : (O ++ [(⟨xn, xv, true, fe, fr⟩ : Vr)]).length = O.length + 1 := by simp
            clear hown' hgrow c0 d0 d1 d2 d3 d4 e0 e1 e2 e3 e4
            have c0 := (unhide HP1).old (unhide HC0)
            have d0 := (unhide HP1).old (unhide HD).1
            have d1 := (unhide HP1).old (unhide HD).2.1
            have d2 := (unhide HP1).old (unhide HD).2.2.1
            have d3 := (unhide HP1).old (unhide HD).2.2.2.1
            have d4 := (unhide HP1).old (unhide HD).2.2.2.2
            have e0 := (unhide HP1).box (unhide HE).1
            have e1 := (unhide HP1).box (unhide HE).2.1
            have e2 := (unhide HP1).box (unhide HE).2.2.1
            have e3 := (unhide HP1).box (unhide HE).2.2.2.1
            have e4 := (unhide HP1).box (unhide HE).2.2.2.2
            go_wp2_with fail
            go_quiet (fail)
            go_wp2_with (first
              | (at_builtin; refine wpList_append_own _ rfl (.tmp 59) (.tmp 67) 30 rfl (w.heap.size + 1) 62 i0 _ 5 40 und_dvars hi hz0 hz1 hz2 rfl (by decide) _ _ _ rfl (World.ownsRow.alloc (unhide HP1).row _) ⟨w4.heap.size, 0, none⟩ 1 1 [.string (BA y.name), .string (BA y.value), .bool y.set, .bool y.ex, .bool y.ro] rfl rfl five_cells (by intro u hu; simp at hu; rcases hu with rfl | rfl | rfl | rfl | rfl <;> rfl) ?c3 ?c4 ?c5 ?_)
              | go_in)
            case c3 => unfold maxLen; omega
            case c4 => omega
            case c5 => have := (unhide HP1).below.size; simp at this; simp; omega
            intro v2 w5 hown' hgrow _
            rw [← hO1] at hown'
            have HP' := hide (((unhide HP1).drew _).push (x := y) hown' hgrow)
            clear hown' hgrow
            go_wp2
            go_roundw
            case rel => exact ⟨k + 1, true, (O ++ [(⟨xn, xv, true, fe, fr⟩ : Vr)] ++ [y]), by go_num, rfl, by omega, hide ⟨by first | omega | (simp; omega), unhide HP', by rw [← unhide HEQ, List.drop_eq_getElem_cons (l := L) (i := k) (by have := unhide HN; omega), unhide HYK, rpl_FG (unhide HYB)]; simp⟩⟩
            case measure => simp [intOf]; omega
          | false =>
            have hq : ((BA y.name).toList == (BA xn).toList) = false := by rw [BA_toList, BA_toList]; simpa using hye
            have hls : Op.bytesLess (BA y.name).toList (BA xn).toList = true := by rw [BA_toList, BA_toList]; exact less_yes hyb hye
            have HYE := hide hye
            have HYB := hide hyb
            clear hye hyb
            go_wp2_with fail
            go_quiet (fail)
            go_wp2_with fail
            go_quiet (fail)
            go_wp2_with (first
              | (at_builtin; refine wpList_append_own _ rfl (.tmp 59) (.tmp 67) 30 rfl (w.heap.size + 1) 62 i0 _ 5 40 und_dvars hi hz0 hz1 hz2 rfl (by decide) _ _ _ rfl (World.ownsRow.alloc (unhide HP).row _) ⟨wr.heap.size, 0, none⟩ 1 1 [.string (BA y.name), .string (BA y.value), .bool y.set, .bool y.ex, .bool y.ro] rfl rfl five_cells (by intro u hu; simp at hu; rcases hu with rfl | rfl | rfl | rfl | rfl <;> rfl) ?c3 ?c4 ?c5 ?_)
              | go_in)
            case c3 => unfold maxLen; omega
            case c4 => omega
            case c5 => have := (unhide HP).below.size; simp at this; simp; omega
            intro v' w4 hown' hgrow _
            have HP' := hide (((unhide HP).drew _).push (x := y) hown' hgrow)
            clear hown' hgrow
            go_wp2
            go_roundw
            case rel => exact ⟨k + 1, false, (O ++ [y]), by go_num, rfl, by omega, hide ⟨by first | omega | (simp; omega), unhide HP', by rw [← unhide HEQ, List.drop_eq_getElem_cons (l := L) (i := k) (by have := unhide HN; omega), unhide HYK, rpl_FS (unhide HYB) (unhide HYE)]; simp⟩⟩
            case measure => simp [intOf]; omega
    · have hlt1 : ¬ (k : Int) < (N : Int) := by omega
      have hdr : L.drop k = [] := List.drop_eq_nil_of_le (by have := unhide HN; omega)
      have HDR := hide hdr
      have c0 := (unhide HP).old (unhide HC0)
      clear hdr
      cases d with
      | true =>
        clear c0
        have HEND := hide ((unhide HP).done (unhide HR) (unhide HY))
        have hbk := (unhide HP).blk (unhide HBK)
        have c0 := hbk.cell 0 rfl
        have f0 : wr.frozen? ⟨b, 0, none⟩ = false := hbk.frozen 0
        obtain ⟨ao, co, ho⟩ := (unhide HP).shape
        try rw [List.length_append, List.length_singleton] at ho
        subst ho
        clear hbk
        have HOO := hide (show O = rpl ⟨xn, xv, true, fe, fr⟩ false L by rw [← unhide HEQ, unhide HDR]; simp [rpl])
        go_wp2
        refine bodyPost_end (res0 rfl _ _) rfl ⟨rfl, ?_⟩
        rw [← unhide HOO]
        exact unhide HEND
      | false =>
        have e0 := (unhide HP).box (unhide HE).1
        have e1 := (unhide HP).box (unhide HE).2.1
        have e2 := (unhide HP).box (unhide HE).2.2.1
        have e3 := (unhide HP).box (unhide HE).2.2.2.1
        have e4 := (unhide HP).box (unhide HE).2.2.2.2
        go_wp2_with (first
          | (at_builtin; refine wpList_append_own _ rfl (.tmp 71) (.tmp 73) 30 rfl (w.heap.size + 1) 62 i0 _ 5 40 und_dvars hi hz0 hz1 hz2 rfl (by decide) _ _ _ rfl (World.ownsRow.alloc (unhide HP).row _) ⟨wr.heap.size, 0, none⟩ 1 1 [.string (BA xn), .string (BA xv), .bool true, .bool fe, .bool fr] rfl rfl five_cells (by intro u hu; simp at hu; rcases hu with rfl | rfl | rfl | rfl | rfl <;> rfl) ?c3 ?c4 ?c5 ?_)
          | go_in)
        case c3 => unfold maxLen; omega
        case c4 => omega
        case c5 => have := (unhide HP).below.size; simp at this; simp; omega
        intro v' w4 hown' hgrow _
        have HP1 := hide ((unhide HP).push (x := ⟨xn, xv, true, fe, fr⟩) hown' hgrow)
        clear hown' hgrow c0 e0 e1 e2 e3 e4
        have HEND := hide ((unhide HP1).done (unhide HR) (unhide HY))
        have hbk := (unhide HP1).blk (unhide HBK)
        have c0 := hbk.cell 0 rfl
        have f0 : w4.frozen? ⟨b, 0, none⟩ = false := hbk.frozen 0
        obtain ⟨ao, co, ho⟩ := (unhide HP1).shape
        try rw [List.length_append, List.length_singleton] at ho
        subst ho
        clear hbk
        have HOO := hide (show O ++ [(⟨xn, xv, true, fe, fr⟩ : Vr)] = rpl ⟨xn, xv, true, fe, fr⟩ false L by rw [← unhide HEQ, unhide HDR]; simp [rpl])
        go_wp2
        refine bodyPost_end (res0 rfl _ _) rfl ⟨rfl, ?_⟩
        rw [← unhide HOO]
        exact unhide HEND

set_option maxRecDepth 20000 in
set_option maxHeartbeats 8000000 in
theorem rput_ex (w0 w : World) (b : Nat) (Y : Nat → Prop) (s : VSt) (xn xv : List UInt8) (fr : Bool) (hY : ∀ k, w.heap.size ≤ k → Y k) (h : RAt w0 w b Y s) (hL : s.L.length ≤ 1000) :
    Calls Tryz.prog 49 #[.pointer (some ⟨b, 0, none⟩), .agg #[.string (BA xn), .string (BA xv), .bool false, .bool true, .bool fr]] w fun e w' => e = .returned (.tuple #[]) ∧ RAt w0 w' b Y { s with L := rpl ⟨xn, xv, false, true, fr⟩ false s.L } ∧ GrownS w w' (fun k => k = b) := by
  obtain ⟨i0, hi, hz0, hz1, hz2⟩ := info_of info_dvar
  have HR := hide h
  have HY := hide hY
  obtain ⟨lv, av, hb, hrow, _⟩ := h
  clear hY
  obtain ⟨L, hLd⟩ : ∃ L, L = s.L := ⟨_, rfl⟩
  rw [← hLd] at hrow hL ⊢
  clear hLd
  obtain ⟨ad, cap, hlv, hc⟩ := hrow
  obtain ⟨N, hN⟩ : ∃ N, N = L.length := ⟨_, rfl⟩
  rw [← hN] at hlv hL
  subst hlv
  have HN := hide hN
  have hbl := hb.lt
  have HBK := hide hb
  have HC0 := hide (show w.cell? ⟨b, 0, none⟩ = some (.slice ad N cap) from hb.cell 0 rfl)
  have hbx := Blk.new w 62 #[.string (BA xn), .string (BA xv), .bool false, .bool true, .bool fr]
  have HE := hide (⟨hbx.cell 0 rfl, hbx.cell 1 rfl, hbx.cell 2 rfl, hbx.cell 3 rfl, hbx.cell 4 rfl⟩ : (w.alloc (.cells #[.string (BA xn), .string (BA xv), .bool false, .bool true, .bool fr] 62)).cell? ⟨w.heap.size, 0, none⟩ = some (.string (BA xn)) ∧ (w.alloc (.cells #[.string (BA xn), .string (BA xv), .bool false, .bool true, .bool fr] 62)).cell? ⟨w.heap.size, 1, none⟩ = some (.string (BA xv)) ∧ (w.alloc (.cells #[.string (BA xn), .string (BA xv), .bool false, .bool true, .bool fr] 62)).cell? ⟨w.heap.size, 2, none⟩ = some (.bool false) ∧ (w.alloc (.cells #[.string (BA xn), .string (BA xv), .bool false, .bool true, .bool fr] 62)).cell? ⟨w.heap.size, 3, none⟩ = some (.bool true) ∧ (w.alloc (.cells #[.string (BA xn), .string (BA xv), .bool false, .bool true, .bool fr] 62)).cell? ⟨w.heap.size, 4, none⟩ = some (.bool fr))
  have HC := hide hc
  clear hb hc hN hbx
  go_enter Tryz.func49, Tryz.ntmps49
  go_wp2
  go_loopw [4, 5, 6] (fun ov dv iv wr => ∃ (k : Nat) (d : Bool) (O : List Vr), iv = .int .i64 k ∧ dv = .bool d ∧ k ≤ N ∧ Hid (O.length ≤ 2 * k ∧ PIn w (.cells #[.string (BA xn), .string (BA xv), .bool false, .bool true, .bool fr] 62) wr ov O ∧ O ++ rpl ⟨xn, xv, false, true, fr⟩ d (L.drop k) = rpl ⟨xn, xv, false, true, fr⟩ false L)) (fun _ _ iv _ => N - (intOf iv).toNat)
  case atStart => exact ⟨0, false, [], rfl, rfl, Nat.zero_le _, hide ⟨Nat.le_refl _, ⟨World.ownsRow_nil _ _ _ _, by simpa using Below.refl _ _⟩, rfl⟩⟩
  case round =>
    obtain ⟨k, d, O, rfl, rfl, hk, HI⟩ := hrel
    obtain ⟨hO, hP, hEQ⟩ := unhide HI
    have HP := hide hP
    have HEQ := hide hEQ
    clear hP hEQ HI
    by_cases hlt : k < N
    · have hy : L[k]? = some (L[k]'(by have := unhide HN; omega)) := List.getElem?_eq_getElem _
      obtain ⟨y, hyk⟩ : ∃ y, y = L[k]'(by have := unhide HN; omega) := ⟨_, rfl⟩
      rw [← hyk] at hy
      obtain ⟨g, rfl, hg, dd⟩ := unhide HC k y hy
      have HYK := hide hyk.symm
      have HD := hide dd
      clear hy hyk dd
      have hlt1 : (k : Int) < (N : Int) := by omega
      have hk0 : (0 : Int) ≤ (k : Int) := by omega
      have c0 := (unhide HP).old (unhide HC0)
      have d0 := (unhide HP).old (unhide HD).1
      have d1 := (unhide HP).old (unhide HD).2.1
      have d2 := (unhide HP).old (unhide HD).2.2.1
      have d3 := (unhide HP).old (unhide HD).2.2.2.1
      have d4 := (unhide HP).old (unhide HD).2.2.2.2
      have e0 := (unhide HP).box (unhide HE).1
      have e1 := (unhide HP).box (unhide HE).2.1
      have e2 := (unhide HP).box (unhide HE).2.2.1
      have e3 := (unhide HP).box (unhide HE).2.2.2.1
      have e4 := (unhide HP).box (unhide HE).2.2.2.2
      cases d with
      | true =>
        by_cases hye : y.name = xn
        · have hq : ((BA y.name).toList == (BA xn).toList) = true := by rw [hye]; simp
          have HYE := hide hye
          clear hye
          go_wp2_with fail
          go_quiet (fail)
          go_wp2_with fail
          go_quiet (fail)
          go_wp2
          go_roundw
          case rel => exact ⟨k + 1, true, O, by go_num, rfl, by omega, hide ⟨by first | omega | (simp; omega), (unhide HP).drew _, by rw [← unhide HEQ, List.drop_eq_getElem_cons (l := L) (i := k) (by have := unhide HN; omega), unhide HYK, rpl_E (unhide HYE)]⟩⟩
          case measure => simp [intOf]; omega
        · have hq : ((BA y.name).toList == (BA xn).toList) = false := by rw [BA_toList, BA_toList]; simpa using hye
          have HYE := hide hye
          clear hye
          go_wp2_with fail
          go_quiet (fail)
          go_wp2_with fail
          go_quiet (fail)
          go_wp2_with (first
            | (at_builtin; refine wpList_append_own _ rfl (.tmp 59) (.tmp 67) 30 rfl (w.heap.size + 1) 62 i0 _ 5 40 und_dvars hi hz0 hz1 hz2 rfl (by decide) _ _ _ rfl (World.ownsRow.alloc (unhide HP).row _) ⟨wr.heap.size, 0, none⟩ 1 1 [.string (BA y.name), .string (BA y.value), .bool y.set, .bool y.ex, .bool y.ro] rfl rfl five_cells (by intro u hu; simp at hu; rcases hu with rfl | rfl | rfl | rfl | rfl <;> rfl) ?c3 ?c4 ?c5 ?_)
            | go_in)
          case c3 => unfold maxLen; omega
          case c4 => omega
          case c5 => have := (unhide HP).below.size; simp at this; simp; omega
          intro v' w4 hown' hgrow _
          have HP' := hide (((unhide HP).drew _).push (x := y) hown' hgrow)
          clear hown' hgrow
          go_wp2
          go_roundw
          case rel => exact ⟨k + 1, true, (O ++ [y]), by go_num, rfl, by omega, hide ⟨by first | omega | (simp; omega), unhide HP', by rw [← unhide HEQ, List.drop_eq_getElem_cons (l := L) (i := k) (by have := unhide HN; omega), unhide HYK, rpl_TN (unhide HYE)]; simp⟩⟩
          case measure => simp [intOf]; omega
      | false =>
        by_cases hye : y.name = xn
        · have hq : ((BA y.name).toList == (BA xn).toList) = true := by rw [hye]; simp
          have hls : Op.bytesLess (BA y.name).toList (BA xn).toList = false := by rw [BA_toList, BA_toList, hye]; exact less_self
          have HYE := hide hye
          clear hye
          go_wp2_with fail
          go_quiet (fail)
          go_wp2_with fail
          go_quiet (fail)
          go_wp2
          go_roundw
          case rel => exact ⟨k + 1, false, O, by go_num, rfl, by omega, hide ⟨by first | omega | (simp; omega), (unhide HP).drew _, by rw [← unhide HEQ, List.drop_eq_getElem_cons (l := L) (i := k) (by have := unhide HN; omega), unhide HYK, rpl_E (unhide HYE)]⟩⟩
          case measure => simp [intOf]; omega
        · cases hyb : bytesBefore xn y.name with
          | true =>
            have hq : ((BA y.name).toList == (BA xn).toList) = false := by rw [BA_toList, BA_toList]; simpa using hye
            have hls : Op.bytesLess (BA y.name).toList (BA xn).toList = false := by rw [BA_toList, BA_toList]; exact less_no hyb
            have HYE := hide hye
            have HYB := hide hyb
            clear hye hyb
            go_wp2_with fail
            go_quiet (fail)
            go_wp2_with (first
              | (at_builtin; refine wpList_append_own _ rfl (.tmp 44) (.tmp 46) 30 rfl (w.heap.size + 1) 62 i0 _ 5 40 und_dvars hi hz0 hz1 hz2 rfl (by decide) _ _ _ rfl (World.ownsRow.alloc (unhide HP).row _) ⟨wr.heap.size, 0, none⟩ 1 1 [.string (BA xn), .string (BA xv), .bool false, .bool true, .bool fr] rfl rfl five_cells (by intro u hu; simp at hu; rcases hu with rfl | rfl | rfl | rfl | rfl <;> rfl) ?c3 ?c4 ?c5 ?_)
              | go_in)
            case c3 => unfold maxLen; omega
            case c4 => omega
            case c5 => have := (unhide HP).below.size; simp at this; simp; omega
            intro v' w4 hown' hgrow _
            have HP1 := hide (((unhide HP).drew _).push (x := ⟨xn, xv, false, true, fr⟩) hown' hgrow)
            have hO1 : (O ++ [(⟨xn, xv, false, true, fr⟩ : Vr)]).length = O.length + 1 := by simp
            clear hown' hgrow c0 d0 d1 d2 d3 d4 e0 e1 e2 e3 e4
            have c0 := (unhide HP1).old (unhide HC0)
            have d0 := (unhide HP1).old (unhide HD).1
            have d1 := (unhide HP1).old (unhide HD).2.1
            have d2 := (unhide HP1).old (unhide HD).2.2.1
            have d3 := (unhide HP1).old (unhide HD).2.2.2.1
            have d4 := (unhide HP1).old (unhide HD).2.2.2.2
            have e0 := (unhide HP1).box (unhide HE).1
            have e1 := (unhide HP1).box (unhide HE).2.1
            have e2 := (unhide HP1).box (unhide HE).2.2.1
            have e3 := (unhide HP1).box (unhide HE).2.2.2.1
            have e4 := (unhide HP1).box (unhide HE).2.2.2.2
            go_wp2_with fail
            go_quiet (fail)
            go_wp2_with (first
              | (at_builtin; refine wpList_append_own _ rfl (.tmp 59) (.tmp 67) 30 rfl (w.heap.size + 1) 62 i0 _ 5 40 und_dvars hi hz0 hz1 hz2 rfl (by decide) _ _ _ rfl (World.ownsRow.alloc (unhide HP1).row _) ⟨w4.heap.size, 0, none⟩ 1 1 [.string (BA y.name), .string (BA y.value), .bool y.set, .bool y.ex, .bool y.ro] rfl rfl five_cells (by intro u hu; simp at hu; rcases hu with rfl | rfl | rfl | rfl | rfl <;> rfl) ?c3 ?c4 ?c5 ?_)
              | go_in)
            case c3 => unfold maxLen; omega
            case c4 => omega
            case c5 => have := (unhide HP1).below.size; simp at this; simp; omega
            intro v2 w5 hown' hgrow _
            rw [← hO1] at hown'
            have HP' := hide (((unhide HP1).drew _).push (x := y) hown' hgrow)
            clear hown' hgrow
            go_wp2
            go_roundw
            case rel => exact ⟨k + 1, true, (O ++ [(⟨xn, xv, false, true, fr⟩ : Vr)] ++ [y]), by go_num, rfl, by omega, hide ⟨by first | omega | (simp; omega), unhide HP', by rw [← unhide HEQ, List.drop_eq_getElem_cons (l := L) (i := k) (by have := unhide HN; omega), unhide HYK, rpl_FG (unhide HYB)]; simp⟩⟩
            case measure => simp [intOf]; omega
          | false =>
            have hq : ((BA y.name).toList == (BA xn).toList) = false := by rw [BA_toList, BA_toList]; simpa using hye
            have hls : Op.bytesLess (BA y.name).toList (BA xn).toList = true := by rw [BA_toList, BA_toList]; exact less_yes hyb hye
            have HYE := hide hye
            have HYB := hide hyb
            clear hye hyb
            go_wp2_with fail
            go_quiet (fail)
            go_wp2_with fail
            go_quiet (fail)
            go_wp2_with (first
              | (at_builtin; refine wpList_append_own _ rfl (.tmp 59) (.tmp 67) 30 rfl (w.heap.size + 1) 62 i0 _ 5 40 und_dvars hi hz0 hz1 hz2 rfl (by decide) _ _ _ rfl (World.ownsRow.alloc (unhide HP).row _) ⟨wr.heap.size, 0, none⟩ 1 1 [.string (BA y.name), .string (BA y.value), .bool y.set, .bool y.ex, .bool y.ro] rfl rfl five_cells (by intro u hu; simp at hu; rcases hu with rfl | rfl | rfl | rfl | rfl <;> rfl) ?c3 ?c4 ?c5 ?_)
              | go_in)
            case c3 => unfold maxLen; omega
            case c4 => omega
            case c5 => have := (unhide HP).below.size; simp at this; simp; omega
            intro v' w4 hown' hgrow _
            have HP' := hide (((unhide HP).drew _).push (x := y) hown' hgrow)
            clear hown' hgrow
            go_wp2
            go_roundw
            case rel => exact ⟨k + 1, false, (O ++ [y]), by go_num, rfl, by omega, hide ⟨by first | omega | (simp; omega), unhide HP', by rw [← unhide HEQ, List.drop_eq_getElem_cons (l := L) (i := k) (by have := unhide HN; omega), unhide HYK, rpl_FS (unhide HYB) (unhide HYE)]; simp⟩⟩
            case measure => simp [intOf]; omega
    · have hlt1 : ¬ (k : Int) < (N : Int) := by omega
      have hdr : L.drop k = [] := List.drop_eq_nil_of_le (by have := unhide HN; omega)
      have HDR := hide hdr
      have c0 := (unhide HP).old (unhide HC0)
      clear hdr
      cases d with
      | true =>
        clear c0
        have HEND := hide ((unhide HP).done (unhide HR) (unhide HY))
        have hbk := (unhide HP).blk (unhide HBK)
        have c0 := hbk.cell 0 rfl
        have f0 : wr.frozen? ⟨b, 0, none⟩ = false := hbk.frozen 0
        obtain ⟨ao, co, ho⟩ := (unhide HP).shape
        try rw [List.length_append, List.length_singleton] at ho
        subst ho
        clear hbk
        have HOO := hide (show O = rpl ⟨xn, xv, false, true, fr⟩ false L by rw [← unhide HEQ, unhide HDR]; simp [rpl])
        go_wp2
        refine bodyPost_end (res0 rfl _ _) rfl ⟨rfl, ?_⟩
        rw [← unhide HOO]
        exact unhide HEND
      | false =>
        have e0 := (unhide HP).box (unhide HE).1
        have e1 := (unhide HP).box (unhide HE).2.1
        have e2 := (unhide HP).box (unhide HE).2.2.1
        have e3 := (unhide HP).box (unhide HE).2.2.2.1
        have e4 := (unhide HP).box (unhide HE).2.2.2.2
        go_wp2_with (first
          | (at_builtin; refine wpList_append_own _ rfl (.tmp 71) (.tmp 73) 30 rfl (w.heap.size + 1) 62 i0 _ 5 40 und_dvars hi hz0 hz1 hz2 rfl (by decide) _ _ _ rfl (World.ownsRow.alloc (unhide HP).row _) ⟨wr.heap.size, 0, none⟩ 1 1 [.string (BA xn), .string (BA xv), .bool false, .bool true, .bool fr] rfl rfl five_cells (by intro u hu; simp at hu; rcases hu with rfl | rfl | rfl | rfl | rfl <;> rfl) ?c3 ?c4 ?c5 ?_)
          | go_in)
        case c3 => unfold maxLen; omega
        case c4 => omega
        case c5 => have := (unhide HP).below.size; simp at this; simp; omega
        intro v' w4 hown' hgrow _
        have HP1 := hide ((unhide HP).push (x := ⟨xn, xv, false, true, fr⟩) hown' hgrow)
        clear hown' hgrow c0 e0 e1 e2 e3 e4
        have HEND := hide ((unhide HP1).done (unhide HR) (unhide HY))
        have hbk := (unhide HP1).blk (unhide HBK)
        have c0 := hbk.cell 0 rfl
        have f0 : w4.frozen? ⟨b, 0, none⟩ = false := hbk.frozen 0
        obtain ⟨ao, co, ho⟩ := (unhide HP1).shape
        try rw [List.length_append, List.length_singleton] at ho
        subst ho
        clear hbk
        have HOO := hide (show O ++ [(⟨xn, xv, false, true, fr⟩ : Vr)] = rpl ⟨xn, xv, false, true, fr⟩ false L by rw [← unhide HEQ, unhide HDR]; simp [rpl])
        go_wp2
        refine bodyPost_end (res0 rfl _ _) rfl ⟨rfl, ?_⟩
        rw [← unhide HOO]
        exact unhide HEND

set_option maxRecDepth 20000 in
set_option maxHeartbeats 8000000 in
theorem rput_ro (w0 w : World) (b : Nat) (Y : Nat → Prop) (s : VSt) (xn xv : List UInt8) (hY : ∀ k, w.heap.size ≤ k → Y k) (h : RAt w0 w b Y s) (hL : s.L.length ≤ 1000) :
    Calls Tryz.prog 49 #[.pointer (some ⟨b, 0, none⟩), .agg #[.string (BA xn), .string (BA xv), .bool false, .bool false, .bool true]] w fun e w' => e = .returned (.tuple #[]) ∧ RAt w0 w' b Y { s with L := rpl ⟨xn, xv, false, false, true⟩ false s.L } ∧ GrownS w w' (fun k => k = b) := by
  obtain ⟨i0, hi, hz0, hz1, hz2⟩ := info_of info_dvar
  have HR := hide h
  have HY := hide hY
  obtain ⟨lv, av, hb, hrow, _⟩ := h
  clear hY
  obtain ⟨L, hLd⟩ : ∃ L, L = s.L := ⟨_, rfl⟩
  rw [← hLd] at hrow hL ⊢
  clear hLd
  obtain ⟨ad, cap, hlv, hc⟩ := hrow
  obtain ⟨N, hN⟩ : ∃ N, N = L.length := ⟨_, rfl⟩
  rw [← hN] at hlv hL
  subst hlv
  have HN := hide hN
  have hbl := hb.lt
  have HBK := hide hb
  have HC0 := hide (show w.cell? ⟨b, 0, none⟩ = some (.slice ad N cap) from hb.cell 0 rfl)
  have hbx := Blk.new w 62 #[.string (BA xn), .string (BA xv), .bool false, .bool false, .bool true]
  have HE := hide (⟨hbx.cell 0 rfl, hbx.cell 1 rfl, hbx.cell 2 rfl, hbx.cell 3 rfl, hbx.cell 4 rfl⟩ : (w.alloc (.cells #[.string (BA xn), .string (BA xv), .bool false, .bool false, .bool true] 62)).cell? ⟨w.heap.size, 0, none⟩ = some (.string (BA xn)) ∧ (w.alloc (.cells #[.string (BA xn), .string (BA xv), .bool false, .bool false, .bool true] 62)).cell? ⟨w.heap.size, 1, none⟩ = some (.string (BA xv)) ∧ (w.alloc (.cells #[.string (BA xn), .string (BA xv), .bool false, .bool false, .bool true] 62)).cell? ⟨w.heap.size, 2, none⟩ = some (.bool false) ∧ (w.alloc (.cells #[.string (BA xn), .string (BA xv), .bool false, .bool false, .bool true] 62)).cell? ⟨w.heap.size, 3, none⟩ = some (.bool false) ∧ (w.alloc (.cells #[.string (BA xn), .string (BA xv), .bool false, .bool false, .bool true] 62)).cell? ⟨w.heap.size, 4, none⟩ = some (.bool true))
  have HC := hide hc
  clear hb hc hN hbx
  go_enter Tryz.func49, Tryz.ntmps49
  go_wp2
  go_loopw [4, 5, 6] (fun ov dv iv wr => ∃ (k : Nat) (d : Bool) (O : List Vr), iv = .int .i64 k ∧ dv = .bool d ∧ k ≤ N ∧ Hid (O.length ≤ 2 * k ∧ PIn w (.cells #[.string (BA xn), .string (BA xv), .bool false, .bool false, .bool true] 62) wr ov O ∧ O ++ rpl ⟨xn, xv, false, false, true⟩ d (L.drop k) = rpl ⟨xn, xv, false, false, true⟩ false L)) (fun _ _ iv _ => N - (intOf iv).toNat)
  case atStart => exact ⟨0, false, [], rfl, rfl, Nat.zero_le _, hide ⟨Nat.le_refl _, ⟨World.ownsRow_nil _ _ _ _, by simpa using Below.refl _ _⟩, rfl⟩⟩
  case round =>
    obtain ⟨k, d, O, rfl, rfl, hk, HI⟩ := hrel
    obtain ⟨hO, hP, hEQ⟩ := unhide HI
    have HP := hide hP
    have HEQ := hide hEQ
    clear hP hEQ HI
    by_cases hlt : k < N
    · have hy : L[k]? = some (L[k]'(by have := unhide HN; omega)) := List.getElem?_eq_getElem _
      obtain ⟨y, hyk⟩ : ∃ y, y = L[k]'(by have := unhide HN; omega) := ⟨_, rfl⟩
      rw [← hyk] at hy
      obtain ⟨g, rfl, hg, dd⟩ := unhide HC k y hy
      have HYK := hide hyk.symm
      have HD := hide dd
      clear hy hyk dd
      have hlt1 : (k : Int) < (N : Int) := by omega
      have hk0 : (0 : Int) ≤ (k : Int) := by omega
      have c0 := (unhide HP).old (unhide HC0)
      have d0 := (unhide HP).old (unhide HD).1
      have d1 := (unhide HP).old (unhide HD).2.1
      have d2 := (unhide HP).old (unhide HD).2.2.1
      have d3 := (unhide HP).old (unhide HD).2.2.2.1
      have d4 := (unhide HP).old (unhide HD).2.2.2.2
      have e0 := (unhide HP).box (unhide HE).1
      have e1 := (unhide HP).box (unhide HE).2.1
      have e2 := (unhide HP).box (unhide HE).2.2.1
      have e3 := (unhide HP).box (unhide HE).2.2.2.1
      have e4 := (unhide HP).box (unhide HE).2.2.2.2
      cases d with
      | true =>
        by_cases hye : y.name = xn
        · have hq : ((BA y.name).toList == (BA xn).toList) = true := by rw [hye]; simp
          have HYE := hide hye
          clear hye
          go_wp2_with fail
          go_quiet (fail)
          go_wp2_with fail
          go_quiet (fail)
          go_wp2
          go_roundw
          case rel => exact ⟨k + 1, true, O, by go_num, rfl, by omega, hide ⟨by first | omega | (simp; omega), (unhide HP).drew _, by rw [← unhide HEQ, List.drop_eq_getElem_cons (l := L) (i := k) (by have := unhide HN; omega), unhide HYK, rpl_E (unhide HYE)]⟩⟩
          case measure => simp [intOf]; omega
        · have hq : ((BA y.name).toList == (BA xn).toList) = false := by rw [BA_toList, BA_toList]; simpa using hye
          have HYE := hide hye
          clear hye
          go_wp2_with fail
          go_quiet (fail)
          go_wp2_with fail
          go_quiet (fail)
          go_wp2_with (first
            | (at_builtin; refine wpList_append_own _ rfl (.tmp 59) (.tmp 67) 30 rfl (w.heap.size + 1) 62 i0 _ 5 40 und_dvars hi hz0 hz1 hz2 rfl (by decide) _ _ _ rfl (World.ownsRow.alloc (unhide HP).row _) ⟨wr.heap.size, 0, none⟩ 1 1 [.string (BA y.name), .string (BA y.value), .bool y.set, .bool y.ex, .bool y.ro] rfl rfl five_cells (by intro u hu; simp at hu; rcases hu with rfl | rfl | rfl | rfl | rfl <;> rfl) ?c3 ?c4 ?c5 ?_)
            | go_in)
          case c3 => unfold maxLen; omega
          case c4 => omega
          case c5 => have := (unhide HP).below.size; simp at this; simp; omega
          intro v' w4 hown' hgrow _
          have HP' := hide (((unhide HP).drew _).push (x := y) hown' hgrow)
          clear hown' hgrow
          go_wp2
          go_roundw
          case rel => exact ⟨k + 1, true, (O ++ [y]), by go_num, rfl, by omega, hide ⟨by first | omega | (simp; omega), unhide HP', by rw [← unhide HEQ, List.drop_eq_getElem_cons (l := L) (i := k) (by have := unhide HN; omega), unhide HYK, rpl_TN (unhide HYE)]; simp⟩⟩
          case measure => simp [intOf]; omega
      | false =>
        by_cases hye : y.name = xn
        · have hq : ((BA y.name).toList == (BA xn).toList) = true := by rw [hye]; simp
          have hls : Op.bytesLess (BA y.name).toList (BA xn).toList = false := by rw [BA_toList, BA_toList, hye]; exact less_self
          have HYE := hide hye
          clear hye
          go_wp2_with fail
          go_quiet (fail)
          go_wp2_with fail
          go_quiet (fail)
          go_wp2
          go_roundw
          case rel => exact ⟨k + 1, false, O, by go_num, rfl, by omega, hide ⟨by first | omega | (simp; omega), (unhide HP).drew _, by rw [← unhide HEQ, List.drop_eq_getElem_cons (l := L) (i := k) (by have := unhide HN; omega), unhide HYK, rpl_E (unhide HYE)]⟩⟩
          case measure => simp [intOf]; omega
        · cases hyb : bytesBefore xn y.name with
          | true =>
            have hq : ((BA y.name).toList == (BA xn).toList) = false := by rw [BA_toList, BA_toList]; simpa using hye
            have hls : Op.bytesLess (BA y.name).toList (BA xn).toList = false := by rw [BA_toList, BA_toList]; exact less_no hyb
            have HYE := hide hye
            have HYB := hide hyb
            clear hye hyb
            go_wp2_with fail
            go_quiet (fail)
            go_wp2_with (first
              | (at_builtin; refine wpList_append_own _ rfl (.tmp 44) (.tmp 46) 30 rfl (w.heap.size + 1) 62 i0 _ 5 40 und_dvars hi hz0 hz1 hz2 rfl (by decide) _ _ _ rfl (World.ownsRow.alloc (unhide HP).row _) ⟨wr.heap.size, 0, none⟩ 1 1 [.string (BA xn), .string (BA xv), .bool false, .bool false, .bool true] rfl rfl five_cells (by intro u hu; simp at hu; rcases hu with rfl | rfl | rfl | rfl | rfl <;> rfl) ?c3 ?c4 ?c5 ?_)
              | go_in)
            case c3 => unfold maxLen; omega
            case c4 => omega
            case c5 => have := (unhide HP).below.size; simp at this; simp; omega
            intro v' w4 hown' hgrow _
            have HP1 := hide (((unhide HP).drew _).push (x := ⟨xn, xv, false, false, true⟩) hown' hgrow)
            have hO1 : (O ++ [(⟨xn, xv, false, false, true⟩ : Vr)]).length = O.length + 1 := by simp
            clear hown' hgrow c0 d0 d1 d2 d3 d4 e0 e1 e2 e3 e4
            have c0 := (unhide HP1).old (unhide HC0)
            have d0 := (unhide HP1).old (unhide HD).1
            have d1 := (unhide HP1).old (unhide HD).2.1
            have d2 := (unhide HP1).old (unhide HD).2.2.1
            have d3 := (unhide HP1).old (unhide HD).2.2.2.1
            have d4 := (unhide HP1).old (unhide HD).2.2.2.2
            have e0 := (unhide HP1).box (unhide HE).1
            have e1 := (unhide HP1).box (unhide HE).2.1
            have e2 := (unhide HP1).box (unhide HE).2.2.1
            have e3 := (unhide HP1).box (unhide HE).2.2.2.1
            have e4 := (unhide HP1).box (unhide HE).2.2.2.2
            go_wp2_with fail
            go_quiet (fail)
            go_wp2_with (first
              | (at_builtin; refine wpList_append_own _ rfl (.tmp 59) (.tmp 67) 30 rfl (w.heap.size + 1) 62 i0 _ 5 40 und_dvars hi hz0 hz1 hz2 rfl (by decide) _ _ _ rfl (World.ownsRow.alloc (unhide HP1).row _) ⟨w4.heap.size, 0, none⟩ 1 1 [.string (BA y.name), .string (BA y.value), .bool y.set, .bool y.ex, .bool y.ro] rfl rfl five_cells (by intro u hu; simp at hu; rcases hu with rfl | rfl | rfl | rfl | rfl <;> rfl) ?c3 ?c4 ?c5 ?_)
              | go_in)
            case c3 => unfold maxLen; omega
            case c4 => omega
            case c5 => have := (unhide HP1).below.size; simp at this; simp; omega
            intro v2 w5 hown' hgrow _
            rw [← hO1] at hown'
            have HP' := hide (((unhide HP1).drew _).push (x := y) hown' hgrow)
            clear hown' hgrow
            go_wp2
            go_roundw
            case rel => exact ⟨k + 1, true, (O ++ [(⟨xn, xv, false, false, true⟩ : Vr)] ++ [y]), by go_num, rfl, by omega, hide ⟨by first | omega | (simp; omega), unhide HP', by rw [← unhide HEQ, List.drop_eq_getElem_cons (l := L) (i := k) (by have := unhide HN; omega), unhide HYK, rpl_FG (unhide HYB)]; simp⟩⟩
            case measure => simp [intOf]; omega
          | false =>
            have hq : ((BA y.name).toList == (BA xn).toList) = false := by rw [BA_toList, BA_toList]; simpa using hye
            have hls : Op.bytesLess (BA y.name).toList (BA xn).toList = true := by rw [BA_toList, BA_toList]; exact less_yes hyb hye
            have HYE := hide hye
            have HYB := hide hyb
            clear hye hyb
            go_wp2_with fail
            go_quiet (fail)
            go_wp2_with fail
            go_quiet (fail)
            go_wp2_with (first
              | (at_builtin; refine wpList_append_own _ rfl (.tmp 59) (.tmp 67) 30 rfl (w.heap.size + 1) 62 i0 _ 5 40 und_dvars hi hz0 hz1 hz2 rfl (by decide) _ _ _ rfl (World.ownsRow.alloc (unhide HP).row _) ⟨wr.heap.size, 0, none⟩ 1 1 [.string (BA y.name), .string (BA y.value), .bool y.set, .bool y.ex, .bool y.ro] rfl rfl five_cells (by intro u hu; simp at hu; rcases hu with rfl | rfl | rfl | rfl | rfl <;> rfl) ?c3 ?c4 ?c5 ?_)
              | go_in)
            case c3 => unfold maxLen; omega
            case c4 => omega
            case c5 => have := (unhide HP).below.size; simp at this; simp; omega
            intro v' w4 hown' hgrow _
            have HP' := hide (((unhide HP).drew _).push (x := y) hown' hgrow)
            clear hown' hgrow
            go_wp2
            go_roundw
            case rel => exact ⟨k + 1, false, (O ++ [y]), by go_num, rfl, by omega, hide ⟨by first | omega | (simp; omega), unhide HP', by rw [← unhide HEQ, List.drop_eq_getElem_cons (l := L) (i := k) (by have := unhide HN; omega), unhide HYK, rpl_FS (unhide HYB) (unhide HYE)]; simp⟩⟩
            case measure => simp [intOf]; omega
    · have hlt1 : ¬ (k : Int) < (N : Int) := by omega
      have hdr : L.drop k = [] := List.drop_eq_nil_of_le (by have := unhide HN; omega)
      have HDR := hide hdr
      have c0 := (unhide HP).old (unhide HC0)
      clear hdr
      cases d with
      | true =>
        clear c0
        have HEND := hide ((unhide HP).done (unhide HR) (unhide HY))
        have hbk := (unhide HP).blk (unhide HBK)
        have c0 := hbk.cell 0 rfl
        have f0 : wr.frozen? ⟨b, 0, none⟩ = false := hbk.frozen 0
        obtain ⟨ao, co, ho⟩ := (unhide HP).shape
        try rw [List.length_append, List.length_singleton] at ho
        subst ho
        clear hbk
        have HOO := hide (show O = rpl ⟨xn, xv, false, false, true⟩ false L by rw [← unhide HEQ, unhide HDR]; simp [rpl])
        go_wp2
        refine bodyPost_end (res0 rfl _ _) rfl ⟨rfl, ?_⟩
        rw [← unhide HOO]
        exact unhide HEND
      | false =>
        have e0 := (unhide HP).box (unhide HE).1
        have e1 := (unhide HP).box (unhide HE).2.1
        have e2 := (unhide HP).box (unhide HE).2.2.1
        have e3 := (unhide HP).box (unhide HE).2.2.2.1
        have e4 := (unhide HP).box (unhide HE).2.2.2.2
        go_wp2_with (first
          | (at_builtin; refine wpList_append_own _ rfl (.tmp 71) (.tmp 73) 30 rfl (w.heap.size + 1) 62 i0 _ 5 40 und_dvars hi hz0 hz1 hz2 rfl (by decide) _ _ _ rfl (World.ownsRow.alloc (unhide HP).row _) ⟨wr.heap.size, 0, none⟩ 1 1 [.string (BA xn), .string (BA xv), .bool false, .bool false, .bool true] rfl rfl five_cells (by intro u hu; simp at hu; rcases hu with rfl | rfl | rfl | rfl | rfl <;> rfl) ?c3 ?c4 ?c5 ?_)
          | go_in)
        case c3 => unfold maxLen; omega
        case c4 => omega
        case c5 => have := (unhide HP).below.size; simp at this; simp; omega
        intro v' w4 hown' hgrow _
        have HP1 := hide ((unhide HP).push (x := ⟨xn, xv, false, false, true⟩) hown' hgrow)
        clear hown' hgrow c0 e0 e1 e2 e3 e4
        have HEND := hide ((unhide HP1).done (unhide HR) (unhide HY))
        have hbk := (unhide HP1).blk (unhide HBK)
        have c0 := hbk.cell 0 rfl
        have f0 : w4.frozen? ⟨b, 0, none⟩ = false := hbk.frozen 0
        obtain ⟨ao, co, ho⟩ := (unhide HP1).shape
        try rw [List.length_append, List.length_singleton] at ho
        subst ho
        clear hbk
        have HOO := hide (show O ++ [(⟨xn, xv, false, false, true⟩ : Vr)] = rpl ⟨xn, xv, false, false, true⟩ false L by rw [← unhide HEQ, unhide HDR]; simp [rpl])
        go_wp2
        refine bodyPost_end (res0 rfl _ _) rfl ⟨rfl, ?_⟩
        rw [← unhide HOO]
        exact unhide HEND

set_option maxRecDepth 20000 in
set_option maxHeartbeats 8000000 in
theorem rput_no (w0 w : World) (b : Nat) (Y : Nat → Prop) (s : VSt) (xn xv : List UInt8) (hY : ∀ k, w.heap.size ≤ k → Y k) (h : RAt w0 w b Y s) (hL : s.L.length ≤ 1000) :
    Calls Tryz.prog 49 #[.pointer (some ⟨b, 0, none⟩), .agg #[.string (BA xn), .string (BA xv), .bool false, .bool false, .bool false]] w fun e w' => e = .returned (.tuple #[]) ∧ RAt w0 w' b Y { s with L := rpl ⟨xn, xv, false, false, false⟩ true s.L } ∧ GrownS w w' (fun k => k = b) := by
  obtain ⟨i0, hi, hz0, hz1, hz2⟩ := info_of info_dvar
  have HR := hide h
  have HY := hide hY
  obtain ⟨lv, av, hb, hrow, _⟩ := h
  clear hY
  obtain ⟨L, hLd⟩ : ∃ L, L = s.L := ⟨_, rfl⟩
  rw [← hLd] at hrow hL ⊢
  clear hLd
  obtain ⟨ad, cap, hlv, hc⟩ := hrow
  obtain ⟨N, hN⟩ : ∃ N, N = L.length := ⟨_, rfl⟩
  rw [← hN] at hlv hL
  subst hlv
  have HN := hide hN
  have hbl := hb.lt
  have HBK := hide hb
  have HC0 := hide (show w.cell? ⟨b, 0, none⟩ = some (.slice ad N cap) from hb.cell 0 rfl)
  have hbx := Blk.new w 62 #[.string (BA xn), .string (BA xv), .bool false, .bool false, .bool false]
  have HE := hide (⟨hbx.cell 0 rfl, hbx.cell 1 rfl, hbx.cell 2 rfl, hbx.cell 3 rfl, hbx.cell 4 rfl⟩ : (w.alloc (.cells #[.string (BA xn), .string (BA xv), .bool false, .bool false, .bool false] 62)).cell? ⟨w.heap.size, 0, none⟩ = some (.string (BA xn)) ∧ (w.alloc (.cells #[.string (BA xn), .string (BA xv), .bool false, .bool false, .bool false] 62)).cell? ⟨w.heap.size, 1, none⟩ = some (.string (BA xv)) ∧ (w.alloc (.cells #[.string (BA xn), .string (BA xv), .bool false, .bool false, .bool false] 62)).cell? ⟨w.heap.size, 2, none⟩ = some (.bool false) ∧ (w.alloc (.cells #[.string (BA xn), .string (BA xv), .bool false, .bool false, .bool false] 62)).cell? ⟨w.heap.size, 3, none⟩ = some (.bool false) ∧ (w.alloc (.cells #[.string (BA xn), .string (BA xv), .bool false, .bool false, .bool false] 62)).cell? ⟨w.heap.size, 4, none⟩ = some (.bool false))
  have HC := hide hc
  clear hb hc hN hbx
  go_enter Tryz.func49, Tryz.ntmps49
  go_wp2
  go_loopw [4, 5, 6] (fun ov dv iv wr => ∃ (k : Nat) (d : Bool) (O : List Vr), iv = .int .i64 k ∧ dv = .bool d ∧ k ≤ N ∧ Hid (O.length ≤ 2 * k ∧ PIn w (.cells #[.string (BA xn), .string (BA xv), .bool false, .bool false, .bool false] 62) wr ov O ∧ O ++ rpl ⟨xn, xv, false, false, false⟩ d (L.drop k) = rpl ⟨xn, xv, false, false, false⟩ true L)) (fun _ _ iv _ => N - (intOf iv).toNat)
  case atStart => exact ⟨0, true, [], rfl, rfl, Nat.zero_le _, hide ⟨Nat.le_refl _, ⟨World.ownsRow_nil _ _ _ _, by simpa using Below.refl _ _⟩, rfl⟩⟩
  case round =>
    obtain ⟨k, d, O, rfl, rfl, hk, HI⟩ := hrel
    obtain ⟨hO, hP, hEQ⟩ := unhide HI
    have HP := hide hP
    have HEQ := hide hEQ
    clear hP hEQ HI
    by_cases hlt : k < N
    · have hy : L[k]? = some (L[k]'(by have := unhide HN; omega)) := List.getElem?_eq_getElem _
      obtain ⟨y, hyk⟩ : ∃ y, y = L[k]'(by have := unhide HN; omega) := ⟨_, rfl⟩
      rw [← hyk] at hy
      obtain ⟨g, rfl, hg, dd⟩ := unhide HC k y hy
      have HYK := hide hyk.symm
      have HD := hide dd
      clear hy hyk dd
      have hlt1 : (k : Int) < (N : Int) := by omega
      have hk0 : (0 : Int) ≤ (k : Int) := by omega
      have c0 := (unhide HP).old (unhide HC0)
      have d0 := (unhide HP).old (unhide HD).1
      have d1 := (unhide HP).old (unhide HD).2.1
      have d2 := (unhide HP).old (unhide HD).2.2.1
      have d3 := (unhide HP).old (unhide HD).2.2.2.1
      have d4 := (unhide HP).old (unhide HD).2.2.2.2
      have e0 := (unhide HP).box (unhide HE).1
      have e1 := (unhide HP).box (unhide HE).2.1
      have e2 := (unhide HP).box (unhide HE).2.2.1
      have e3 := (unhide HP).box (unhide HE).2.2.2.1
      have e4 := (unhide HP).box (unhide HE).2.2.2.2
      cases d with
      | true =>
        by_cases hye : y.name = xn
        · have hq : ((BA y.name).toList == (BA xn).toList) = true := by rw [hye]; simp
          have HYE := hide hye
          clear hye
          go_wp2_with fail
          go_quiet (fail)
          go_wp2_with fail
          go_quiet (fail)
          go_wp2
          go_roundw
          case rel => exact ⟨k + 1, true, O, by go_num, rfl, by omega, hide ⟨by first | omega | (simp; omega), (unhide HP).drew _, by rw [← unhide HEQ, List.drop_eq_getElem_cons (l := L) (i := k) (by have := unhide HN; omega), unhide HYK, rpl_E (unhide HYE)]⟩⟩
          case measure => simp [intOf]; omega
        · have hq : ((BA y.name).toList == (BA xn).toList) = false := by rw [BA_toList, BA_toList]; simpa using hye
          have HYE := hide hye
          clear hye
          go_wp2_with fail
          go_quiet (fail)
          go_wp2_with fail
          go_quiet (fail)
          go_wp2_with (first
            | (at_builtin; refine wpList_append_own _ rfl (.tmp 59) (.tmp 67) 30 rfl (w.heap.size + 1) 62 i0 _ 5 40 und_dvars hi hz0 hz1 hz2 rfl (by decide) _ _ _ rfl (World.ownsRow.alloc (unhide HP).row _) ⟨wr.heap.size, 0, none⟩ 1 1 [.string (BA y.name), .string (BA y.value), .bool y.set, .bool y.ex, .bool y.ro] rfl rfl five_cells (by intro u hu; simp at hu; rcases hu with rfl | rfl | rfl | rfl | rfl <;> rfl) ?c3 ?c4 ?c5 ?_)
            | go_in)
          case c3 => unfold maxLen; omega
          case c4 => omega
          case c5 => have := (unhide HP).below.size; simp at this; simp; omega
          intro v' w4 hown' hgrow _
          have HP' := hide (((unhide HP).drew _).push (x := y) hown' hgrow)
          clear hown' hgrow
          go_wp2
          go_roundw
          case rel => exact ⟨k + 1, true, (O ++ [y]), by go_num, rfl, by omega, hide ⟨by first | omega | (simp; omega), unhide HP', by rw [← unhide HEQ, List.drop_eq_getElem_cons (l := L) (i := k) (by have := unhide HN; omega), unhide HYK, rpl_TN (unhide HYE)]; simp⟩⟩
          case measure => simp [intOf]; omega
      | false =>
        by_cases hye : y.name = xn
        · have hq : ((BA y.name).toList == (BA xn).toList) = true := by rw [hye]; simp
          have hls : Op.bytesLess (BA y.name).toList (BA xn).toList = false := by rw [BA_toList, BA_toList, hye]; exact less_self
          have HYE := hide hye
          clear hye
          go_wp2_with fail
          go_quiet (fail)
          go_wp2_with fail
          go_quiet (fail)
          go_wp2
          go_roundw
          case rel => exact ⟨k + 1, false, O, by go_num, rfl, by omega, hide ⟨by first | omega | (simp; omega), (unhide HP).drew _, by rw [← unhide HEQ, List.drop_eq_getElem_cons (l := L) (i := k) (by have := unhide HN; omega), unhide HYK, rpl_E (unhide HYE)]⟩⟩
          case measure => simp [intOf]; omega
        · cases hyb : bytesBefore xn y.name with
          | true =>
            have hq : ((BA y.name).toList == (BA xn).toList) = false := by rw [BA_toList, BA_toList]; simpa using hye
            have hls : Op.bytesLess (BA y.name).toList (BA xn).toList = false := by rw [BA_toList, BA_toList]; exact less_no hyb
            have HYE := hide hye
            have HYB := hide hyb
            clear hye hyb
            go_wp2_with fail
            go_quiet (fail)
            go_wp2_with (first
              | (at_builtin; refine wpList_append_own _ rfl (.tmp 44) (.tmp 46) 30 rfl (w.heap.size + 1) 62 i0 _ 5 40 und_dvars hi hz0 hz1 hz2 rfl (by decide) _ _ _ rfl (World.ownsRow.alloc (unhide HP).row _) ⟨wr.heap.size, 0, none⟩ 1 1 [.string (BA xn), .string (BA xv), .bool false, .bool false, .bool false] rfl rfl five_cells (by intro u hu; simp at hu; rcases hu with rfl | rfl | rfl | rfl | rfl <;> rfl) ?c3 ?c4 ?c5 ?_)
              | go_in)
            case c3 => unfold maxLen; omega
            case c4 => omega
            case c5 => have := (unhide HP).below.size; simp at this; simp; omega
            intro v' w4 hown' hgrow _
            have HP1 := hide (((unhide HP).drew _).push (x := ⟨xn, xv, false, false, false⟩) hown' hgrow)
            have hO1 : (O ++ [(⟨xn, xv, false, false, false⟩ : Vr)]).length = O.length + 1 := by simp
            clear hown' hgrow c0 d0 d1 d2 d3 d4 e0 e1 e2 e3 e4
            have c0 := (unhide HP1).old (unhide HC0)
            have d0 := (unhide HP1).old (unhide HD).1
            have d1 := (unhide HP1).old (unhide HD).2.1
            have d2 := (unhide HP1).old (unhide HD).2.2.1
            have d3 := (unhide HP1).old (unhide HD).2.2.2.1
            have d4 := (unhide HP1).old (unhide HD).2.2.2.2
            have e0 := (unhide HP1).box (unhide HE).1
            have e1 := (unhide HP1).box (unhide HE).2.1
            have e2 := (unhide HP1).box (unhide HE).2.2.1
            have e3 := (unhide HP1).box (unhide HE).2.2.2.1
            have e4 := (unhide HP1).box (unhide HE).2.2.2.2
            go_wp2_with fail
            go_quiet (fail)
            go_wp2_with (first
              | (at_builtin; refine wpList_append_own _ rfl (.tmp 59) (.tmp 67) 30 rfl (w.heap.size + 1) 62 i0 _ 5 40 und_dvars hi hz0 hz1 hz2 rfl (by decide) _ _ _ rfl (World.ownsRow.alloc (unhide HP1).row _) ⟨w4.heap.size, 0, none⟩ 1 1 [.string (BA y.name), .string (BA y.value), .bool y.set, .bool y.ex, .bool y.ro] rfl rfl five_cells (by intro u hu; simp at hu; rcases hu with rfl | rfl | rfl | rfl | rfl <;> rfl) ?c3 ?c4 ?c5 ?_)
              | go_in)
            case c3 => unfold maxLen; omega
            case c4 => omega
            case c5 => have := (unhide HP1).below.size; simp at this; simp; omega
            intro v2 w5 hown' hgrow _
            rw [← hO1] at hown'
            have HP' := hide (((unhide HP1).drew _).push (x := y) hown' hgrow)
            clear hown' hgrow
            go_wp2
            go_roundw
            case rel => exact ⟨k + 1, true, (O ++ [(⟨xn, xv, false, false, false⟩ : Vr)] ++ [y]), by go_num, rfl, by omega, hide ⟨by first | omega | (simp; omega), unhide HP', by rw [← unhide HEQ, List.drop_eq_getElem_cons (l := L) (i := k) (by have := unhide HN; omega), unhide HYK, rpl_FG (unhide HYB)]; simp⟩⟩
            case measure => simp [intOf]; omega
          | false =>
            have hq : ((BA y.name).toList == (BA xn).toList) = false := by rw [BA_toList, BA_toList]; simpa using hye
            have hls : Op.bytesLess (BA y.name).toList (BA xn).toList = true := by rw [BA_toList, BA_toList]; exact less_yes hyb hye
            have HYE := hide hye
            have HYB := hide hyb
            clear hye hyb
            go_wp2_with fail
            go_quiet (fail)
            go_wp2_with fail
            go_quiet (fail)
            go_wp2_with (first
              | (at_builtin; refine wpList_append_own _ rfl (.tmp 59) (.tmp 67) 30 rfl (w.heap.size + 1) 62 i0 _ 5 40 und_dvars hi hz0 hz1 hz2 rfl (by decide) _ _ _ rfl (World.ownsRow.alloc (unhide HP).row _) ⟨wr.heap.size, 0, none⟩ 1 1 [.string (BA y.name), .string (BA y.value), .bool y.set, .bool y.ex, .bool y.ro] rfl rfl five_cells (by intro u hu; simp at hu; rcases hu with rfl | rfl | rfl | rfl | rfl <;> rfl) ?c3 ?c4 ?c5 ?_)
              | go_in)
            case c3 => unfold maxLen; omega
            case c4 => omega
            case c5 => have := (unhide HP).below.size; simp at this; simp; omega
            intro v' w4 hown' hgrow _
            have HP' := hide (((unhide HP).drew _).push (x := y) hown' hgrow)
            clear hown' hgrow
            go_wp2
            go_roundw
            case rel => exact ⟨k + 1, false, (O ++ [y]), by go_num, rfl, by omega, hide ⟨by first | omega | (simp; omega), unhide HP', by rw [← unhide HEQ, List.drop_eq_getElem_cons (l := L) (i := k) (by have := unhide HN; omega), unhide HYK, rpl_FS (unhide HYB) (unhide HYE)]; simp⟩⟩
            case measure => simp [intOf]; omega
    · have hlt1 : ¬ (k : Int) < (N : Int) := by omega
      have hdr : L.drop k = [] := List.drop_eq_nil_of_le (by have := unhide HN; omega)
      have HDR := hide hdr
      have c0 := (unhide HP).old (unhide HC0)
      clear hdr
      cases d with
      | true =>
        clear c0
        have HEND := hide ((unhide HP).done (unhide HR) (unhide HY))
        have hbk := (unhide HP).blk (unhide HBK)
        have c0 := hbk.cell 0 rfl
        have f0 : wr.frozen? ⟨b, 0, none⟩ = false := hbk.frozen 0
        obtain ⟨ao, co, ho⟩ := (unhide HP).shape
        try rw [List.length_append, List.length_singleton] at ho
        subst ho
        clear hbk
        have HOO := hide (show O = rpl ⟨xn, xv, false, false, false⟩ true L by rw [← unhide HEQ, unhide HDR]; simp [rpl])
        go_wp2
        refine bodyPost_end (res0 rfl _ _) rfl ⟨rfl, ?_⟩
        rw [← unhide HOO]
        exact unhide HEND
      | false =>
        have e0 := (unhide HP).box (unhide HE).1
        have e1 := (unhide HP).box (unhide HE).2.1
        have e2 := (unhide HP).box (unhide HE).2.2.1
        have e3 := (unhide HP).box (unhide HE).2.2.2.1
        have e4 := (unhide HP).box (unhide HE).2.2.2.2
        go_wp2_with (first
          | (at_builtin; refine wpList_append_own _ rfl (.tmp 71) (.tmp 73) 30 rfl (w.heap.size + 1) 62 i0 _ 5 40 und_dvars hi hz0 hz1 hz2 rfl (by decide) _ _ _ rfl (World.ownsRow.alloc (unhide HP).row _) ⟨wr.heap.size, 0, none⟩ 1 1 [.string (BA xn), .string (BA xv), .bool false, .bool false, .bool false] rfl rfl five_cells (by intro u hu; simp at hu; rcases hu with rfl | rfl | rfl | rfl | rfl <;> rfl) ?c3 ?c4 ?c5 ?_)
          | go_in)
        case c3 => unfold maxLen; omega
        case c4 => omega
        case c5 => have := (unhide HP).below.size; simp at this; simp; omega
        intro v' w4 hown' hgrow _
        have HP1 := hide ((unhide HP).push (x := ⟨xn, xv, false, false, false⟩) hown' hgrow)
        clear hown' hgrow c0 e0 e1 e2 e3 e4
        have HEND := hide ((unhide HP1).done (unhide HR) (unhide HY))
        have hbk := (unhide HP1).blk (unhide HBK)
        have c0 := hbk.cell 0 rfl
        have f0 : w4.frozen? ⟨b, 0, none⟩ = false := hbk.frozen 0
        obtain ⟨ao, co, ho⟩ := (unhide HP1).shape
        try rw [List.length_append, List.length_singleton] at ho
        subst ho
        clear hbk
        have HOO := hide (show O ++ [(⟨xn, xv, false, false, false⟩ : Vr)] = rpl ⟨xn, xv, false, false, false⟩ true L by rw [← unhide HEQ, unhide HDR]; simp [rpl])
        go_wp2
        refine bodyPost_end (res0 rfl _ _) rfl ⟨rfl, ?_⟩
        rw [← unhide HOO]
        exact unhide HEND

def rputL (L : List Vr) (x : Vr) : List Vr := if (x.set || x.ex || x.ro) = true then putL L x else delL L x.name
theorem rput_any (w0 w : World) (b : Nat) (Y : Nat → Prop) (s : VSt) (x : Vr) (hY : ∀ k, w.heap.size ≤ k → Y k) (h : RAt w0 w b Y s) (hL : s.L.length ≤ 1000) :
    Calls Tryz.prog 49 #[.pointer (some ⟨b, 0, none⟩), .agg #[.string (BA x.name), .string (BA x.value), .bool x.set, .bool x.ex, .bool x.ro]] w fun e w' => e = .returned (.tuple #[]) ∧ RAt w0 w' b Y { s with L := rputL s.L x } ∧ GrownS w w' (fun k => k = b) := by
  obtain ⟨xn, xv, a, c, d⟩ := x
  unfold rputL
  cases a with
  | true => rw [if_pos (by rfl), ← rpl_false]; exact rput_set w0 w b Y s xn xv c d hY h hL
  | false =>
    cases c with
    | true => rw [if_pos (by rfl), ← rpl_false]; exact rput_ex w0 w b Y s xn xv d hY h hL
    | false =>
      cases d with
      | true => rw [if_pos (by rfl), ← rpl_false]; exact rput_ro w0 w b Y s xn xv hY h hL
      | false =>
        rw [if_neg (by simp)]
        have := rput_no w0 w b Y s xn xv hY h hL
        rwa [rpl_true] at this

end Go.Proofs.YtbcbnoeplapblaaGreatDoor

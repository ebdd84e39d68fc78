/-
  Same, of the program and of the document: whether two words are the same.
  The document's Same.
-/
import Derived.Test.YtnamfjbfcbamjaaGreatDoorM05

/- Same, of the program and of the document: whether two words are the same. -/
namespace Go.Proofs.YtnamfjbfcbamjaaGreatDoor
open Go.RowKit

/-- What 'Same' answers of words up to a size. -/
def SameN (f N : Nat) : Prop := ∀ (a b : List Prt) (x y : Value) (w : World) (A B : Nat → Prop), SizeOf.sizeOf a ≤ N → WAt w A x a → WAt w B y b → (∀ k, A k → k < w.heap.size) → (∀ k, B k → k < w.heap.size) →
  Calls Tryz.prog f #[x, y] w fun e w' => e = .returned (.bool (sameW a b)) ∧ Below w.heap.size w w'

def headP (p q : Prt) : Bool := p.kind == q.kind && p.text == q.text && p.quote == q.quote && p.op == q.op && p.colon == q.colon
theorem sameP_head (p q : Prt) : sameP p q = (headP p q && sameW p.sub q.sub) := by
  obtain ⟨k, t, u, o, c, s⟩ := p
  obtain ⟨k', t', u', o', c', s'⟩ := q
  rw [sameP_mk]
  rfl

set_option maxRecDepth 20000 in
set_option maxHeartbeats 4000000 in
theorem samePart_any {N : Nat} (hS : SameN 33 N) (p q : Prt) (x y : Value) (w : World) (A B : Nat → Prop) (hp : SizeOf.sizeOf p.sub ≤ N) (hx : PV w A x p) (hy : PV w B y q) (hA : ∀ k, A k → k < w.heap.size) (hB : ∀ k, B k → k < w.heap.size) :
    Calls Tryz.prog 53 #[x, y] w fun e w' => e = .returned (.bool (sameP p q)) ∧ Below w.heap.size w w' := by
  obtain ⟨vx, rfl, hx⟩ := hx
  obtain ⟨vy, rfl, hy⟩ := hy
  rw [sameP_head]
  have HW : Hid (∀ w1 : World, Below w.heap.size w w1 → Calls Tryz.prog 33 #[vx, vy] w1 fun e w' => e = .returned (.bool (sameW p.sub q.sub)) ∧ Below w1.heap.size w1 w') := hide (fun w1 hb =>
    hS _ _ _ _ w1 A B hp (hx.below hb hA) (hy.below hb hB) (fun k h => Nat.lt_of_lt_of_le (hA k h) hb.size) (fun k h => Nat.lt_of_lt_of_le (hB k h) hb.size))
  have HB : Hid (∀ x y, Below w.heap.size w ((w.alloc x).alloc y)) := hide (fun x y => ((Below.refl _ w).alloc (Nat.le_refl _) _).alloc (by simp) _)
  clear hx hy hS hp hA hB
  go_enter Tryz.func53, Tryz.ntmps53
  go_wp2_with (go_at_call 33; refine (unhide HW _ (unhide HB _ _)).mono ?_; rintro e w1 ⟨rfl, b1⟩)
  all_goals
    try rw [BA_toList, BA_toList] at *
    go_ret
    refine ⟨ret_bool (by simp [headP, *]), ?_⟩
    first
    | exact unhide HB _ _
    | exact (unhide HB _ _).trans (b1.mono (by simp; omega))

theorem drop_same {a b : List Prt} {k : Nat} {p q : Prt} (ha : a[k]? = some p) (hb : b[k]? = some q) : sameW (a.drop k) (b.drop k) = (sameP p q && sameW (a.drop (k + 1)) (b.drop (k + 1))) := by
  obtain ⟨h1, h2⟩ := List.getElem?_eq_some_iff.1 ha
  obtain ⟨h3, h4⟩ := List.getElem?_eq_some_iff.1 hb
  rw [List.drop_eq_getElem_cons h1, List.drop_eq_getElem_cons h3, sameW_cons, h2, h4]
theorem get_ex {l : List Prt} {k : Nat} (h : k < l.length) : ∃ p, l[k]? = some p := ⟨l[k], List.getElem?_eq_getElem h⟩
theorem mem_of {l : List Prt} {k : Nat} {p : Prt} (h : l[k]? = some p) : p ∈ l := List.mem_of_getElem? h

set_option maxRecDepth 20000 in
set_option maxHeartbeats 4000000 in
theorem equal_any {N : Nat} (hS : SameN 33 N) (a b : List Prt) (x y : Value) (w : World) (A B : Nat → Prop) (hN : SizeOf.sizeOf a ≤ N + 1) (hx : WAt w A x a) (hy : WAt w B y b) (hA : ∀ k, A k → k < w.heap.size) (hB : ∀ k, B k → k < w.heap.size) :
    Calls Tryz.prog 52 #[x, y, .func (Fn.func 53) #[] #[]] w fun e w' => e = .returned (.bool (sameW a b)) ∧ Below w.heap.size w w' := by
  obtain ⟨ada, capa, rfl, hla⟩ := hx.len
  obtain ⟨adb, capb, rfl, hlb⟩ := hy.len
  by_cases hab : a.length = b.length
  · have HX := hide hx
    have HY := hide hy
    have HAB := hide hab
    clear hx hy
    rw [← hab]
    have HS := hide hS
    have HSN := hide hN
    clear hab hlb hS hN
    go_enter Tryz.func52, Tryz.ntmps52
    go_wp2
    go_loopw [17] (fun i wr => ∃ k : Nat, k ≤ a.length ∧ i = .int .i64 k ∧ Hid (sameW (a.drop k) (b.drop k) = sameW a b) ∧ Hid (Below w.heap.size w wr)) (fun i _ => a.length - (intOf i).toNat)
    case atStart => exact ⟨0, Nat.zero_le _, rfl, hide rfl, hide (Below.refl _ _)⟩
    case round =>
      obtain ⟨k, hk, rfl, HE, HB⟩ := hrel
      by_cases hlt : k < a.length
      · obtain ⟨p, hp⟩ := get_ex hlt
        obtain ⟨q, hq⟩ := get_ex (l := b) (k := k) (by have := unhide HAB; omega)
        obtain ⟨ga, oa, va, ea, hga, a0, a1, a2, a3, a4, a5, hsa⟩ := ((unhide HX).below (unhide HB) hA).part hp
        have hy' := (unhide HY).below (unhide HB) hB
        rw [← unhide HAB] at hy'
        obtain ⟨gb, ob, vb, eb, hgb, b0, b1, b2, b3, b4, b5, hsb⟩ := hy'.part hq
        obtain ⟨ada', capa', rfl, _⟩ := hsa.len
        obtain ⟨adb', capb', rfl, _⟩ := hsb.len
        have hga' := Nat.lt_of_lt_of_le (hA _ hga) (unhide HB).size
        have hgb' := Nat.lt_of_lt_of_le (hB _ hgb) (unhide HB).size
        have HSP : Hid (∀ w1, Below wr.heap.size wr w1 → Calls Tryz.prog 53 #[.agg #[.int .i64 p.kind, .string (BA p.text), .bool p.quote, .int .i64 p.op, .bool p.colon, .slice ada' p.sub.length capa'], .agg #[.int .i64 q.kind, .string (BA q.text), .bool q.quote, .int .i64 q.op, .bool q.colon, .slice adb' q.sub.length capb']] w1 fun e w' => e = .returned (.bool (sameP p q)) ∧ Below w1.heap.size w1 w') := hide (fun w1 h1 =>
          samePart_any (unhide HS) p q _ _ w1 A B (by have := sub_lt p a (mem_of hp); have := unhide HSN; omega) ⟨_, rfl, hsa.below h1 (fun k h => Nat.lt_of_lt_of_le (hA k h) (unhide HB).size)⟩ ⟨_, rfl, hsb.below h1 (fun k h => Nat.lt_of_lt_of_le (hB k h) (unhide HB).size)⟩
            (fun k h => Nat.lt_of_lt_of_le (hA k h) (Nat.le_trans (unhide HB).size h1.size)) (fun k h => Nat.lt_of_lt_of_le (hB k h) (Nat.le_trans (unhide HB).size h1.size)))
        have HBB : Hid (∀ x y, Below wr.heap.size wr ((wr.alloc x).alloc y)) := hide (fun x y => ((Below.refl _ wr).alloc (Nat.le_refl _) _).alloc (by simp) _)
        have HST : Hid (sameW (a.drop k) (b.drop k) = (sameP p q && sameW (a.drop (k + 1)) (b.drop (k + 1)))) := hide (drop_same hp hq)
        clear hp hq hsa hsb hy' hga hgb
        subst ea eb
        rcases Bool.eq_false_or_eq_true (sameP p q) with hpq | hpq
        · rw [hpq] at HSP HST
          go_wp2_with (go_at_call 53; refine (unhide HSP _ (unhide HBB _ _)).mono ?_; rintro e w1 ⟨rfl, b1⟩)
          go_roundw
          case rel => exact ⟨k + 1, by omega, by go_num, hide (by rw [← unhide HE, unhide HST]; rfl), hide ((unhide HB).trans (((unhide HBB _ _).trans (b1.mono (by simp; omega))).mono (unhide HB).size))⟩
          case measure => simp [intOf]; omega
        · rw [hpq] at HSP HST
          go_wp2_with (go_at_call 53; refine (unhide HSP _ (unhide HBB _ _)).mono ?_; rintro e w1 ⟨rfl, b1⟩)
          go_ret
          exact ⟨ret_bool (by rw [← unhide HE, unhide HST]; rfl), (unhide HB).trans (((unhide HBB _ _).trans (b1.mono (by simp; omega))).mono (unhide HB).size)⟩
      · go_wp2
        go_ret
        exact ⟨ret_bool (by rw [← unhide HE, List.drop_eq_nil_of_le (by omega), List.drop_eq_nil_of_le (by have := unhide HAB; omega), sameW_nil]), unhide HB⟩
  · have hne : ((a.length : Int) == (b.length : Int)) = false := by rw [beq_eq_false_iff_ne]; omega
    go_enter Tryz.func52, Tryz.ntmps52
    go_wp2
    go_ret
    exact ⟨ret_bool (sameW_len hab).symm, Below.refl _ _⟩

set_option maxHeartbeats 1000000 in
theorem same_all : ∀ N : Nat, SameN 33 N
  | 0 => fun a b x y w A B hN => absurd hN (by cases a <;> simp)
  | N + 1 => by
    intro a b x y w A B hN hx hy hA hB
    have HC := hide (fun w1 (h1 : w1 = w) => (by rw [h1]; exact equal_any (same_all N) a b x y w A B hN hx hy hA hB : Calls Tryz.prog 52 #[x, y, .func (Fn.func 53) #[] #[]] w1 fun e w' => e = .returned (.bool (sameW a b)) ∧ Below w.heap.size w w'))
    clear hx hy hN hA hB
    go_enter Tryz.func33, Tryz.ntmps33
    go_wp2_with fail
    refine (unhide HC _ rfl).mono ?_
    rintro e w1 ⟨rfl, b1⟩
    go_wp2
    go_ret
    exact ⟨rfl, b1⟩
theorem same_any (a b : List Prt) (x y : Value) (w : World) (A B : Nat → Prop) (hx : WAt w A x a) (hy : WAt w B y b) (hA : ∀ k, A k → k < w.heap.size) (hB : ∀ k, B k → k < w.heap.size) :
    Calls Tryz.prog 33 #[x, y] w fun e w' => e = .returned (.bool (sameW a b)) ∧ Below w.heap.size w w' := same_all _ a b x y w A B (Nat.le_refl _) hx hy hA hB

end Go.Proofs.YtnamfjbfcbamjaaGreatDoor

/- The document's Same. -/
namespace Go.Proofs.YtnamfjbfcbamjaaGreatDoor
open Go.RowKit

set_option maxRecDepth 20000 in
set_option maxHeartbeats 4000000 in
theorem rsame_all : ∀ N : Nat, SameN 10 N
  | 0 => fun a b x y w A B hN => absurd hN (by cases a <;> simp)
  | N + 1 => by
    intro a b x y w A B hN hx hy hA hB
    have HS := hide (rsame_all N)
    obtain ⟨ada, capa, rfl, hla⟩ := hx.len
    obtain ⟨adb, capb, rfl, hlb⟩ := hy.len
    by_cases hab : a.length = b.length
    · have HX := hide hx
      have HY := hide hy
      have HAB := hide hab
      clear hx hy
      rw [← hab]
      have HSN := hide hN
      clear hab hlb hN
      go_enter Tryz.func10, Tryz.ntmps10
      go_wp2
      go_loopw [5] (fun i wr => ∃ k : Nat, k ≤ a.length ∧ i = .int .i64 k ∧ Hid (sameW (a.drop k) (b.drop k) = sameW a b) ∧ Hid (Below w.heap.size w wr)) (fun i _ => a.length - (intOf i).toNat)
      case atStart => exact ⟨0, Nat.zero_le _, rfl, hide rfl, hide (Below.refl _ _)⟩
      case round =>
        obtain ⟨k, hk, rfl, HE, HB⟩ := hrel
        by_cases hlt : k < a.length
        · obtain ⟨p, hp⟩ := get_ex hlt
          obtain ⟨q, hq⟩ := get_ex (l := b) (k := k) (by have := unhide HAB; omega)
          obtain ⟨ga, oa, va, ea, hga, a0, a1, a2, a3, a4, a5, hsa⟩ := ((unhide HX).below (unhide HB) hA).part hp
          have hy' := (unhide HY).below (unhide HB) hB
          rw [← unhide HAB] at hy'
          obtain ⟨gb, ob, vb, eb, hgb, b0, b1, b2, b3, b4, b5, hsb⟩ := hy'.part hq
          obtain ⟨ada', capa', rfl, _⟩ := hsa.len
          obtain ⟨adb', capb', rfl, _⟩ := hsb.len
          have hga' := Nat.lt_of_lt_of_le (hA _ hga) (unhide HB).size
          have hgb' := Nat.lt_of_lt_of_le (hB _ hgb) (unhide HB).size
          have HSP : Hid (∀ w1, Below wr.heap.size wr w1 → Calls Tryz.prog 10 #[.slice ada' p.sub.length capa', .slice adb' q.sub.length capb'] w1 fun e w' => e = .returned (.bool (sameW p.sub q.sub)) ∧ Below w1.heap.size w1 w') := hide (fun w1 h1 =>
            unhide HS p.sub q.sub _ _ w1 A B (by have := sub_lt p a (mem_of hp); have := unhide HSN; omega) (hsa.below h1 (fun k h => Nat.lt_of_lt_of_le (hA k h) (unhide HB).size)) (hsb.below h1 (fun k h => Nat.lt_of_lt_of_le (hB k h) (unhide HB).size))
              (fun k h => Nat.lt_of_lt_of_le (hA k h) (Nat.le_trans (unhide HB).size h1.size)) (fun k h => Nat.lt_of_lt_of_le (hB k h) (Nat.le_trans (unhide HB).size h1.size)))
          have HBB : Hid (∀ x y, Below wr.heap.size wr ((wr.alloc x).alloc y)) := hide (fun x y => ((Below.refl _ wr).alloc (Nat.le_refl _) _).alloc (by simp) _)
          have HST : Hid (sameW (a.drop k) (b.drop k) = ((headP p q && sameW p.sub q.sub) && sameW (a.drop (k + 1)) (b.drop (k + 1)))) := hide ((drop_same hp hq).trans (by rw [sameP_head]))
          clear hp hq hsa hsb hy' hga hgb
          subst ea eb
          rcases Bool.eq_false_or_eq_true (sameW p.sub q.sub) with hpq | hpq
          all_goals
            rw [hpq] at HSP HST
            clear hpq
            go_wp2_with (go_at_call 10; refine (unhide HSP _ (unhide HBB _ _)).mono ?_; rintro e w1 ⟨rfl, b1⟩)
            all_goals
              try rw [BA_toList, BA_toList] at *
              first
              | (go_ret
                 refine ⟨ret_bool (by rw [← unhide HE, unhide HST]; simp [headP, *]), ?_⟩
                 first
                 | exact (unhide HB).trans ((unhide HBB _ _).mono (unhide HB).size)
                 | exact (unhide HB).trans (((unhide HBB _ _).trans (b1.mono (by simp; omega))).mono (unhide HB).size))
              | (go_roundw
                 case rel => exact ⟨k + 1, by omega, by go_num, hide (by rw [← unhide HE, unhide HST]; simp [headP, *]), hide ((unhide HB).trans (((unhide HBB _ _).trans (b1.mono (by simp; omega))).mono (unhide HB).size))⟩
                 case measure => simp [intOf]; omega)
        · go_wp2
          go_ret
          exact ⟨ret_bool (by rw [← unhide HE, List.drop_eq_nil_of_le (by omega), List.drop_eq_nil_of_le (by have := unhide HAB; omega), sameW_nil]), unhide HB⟩
    · have hne : ((a.length : Int) == (b.length : Int)) = false := by rw [beq_eq_false_iff_ne]; omega
      go_enter Tryz.func10, Tryz.ntmps10
      go_wp2
      go_ret
      exact ⟨ret_bool (sameW_len hab).symm, Below.refl _ _⟩
theorem rsame_any (a b : List Prt) (x y : Value) (w : World) (A B : Nat → Prop) (hx : WAt w A x a) (hy : WAt w B y b) (hA : ∀ k, A k → k < w.heap.size) (hB : ∀ k, B k → k < w.heap.size) :
    Calls Tryz.prog 10 #[x, y] w fun e w' => e = .returned (.bool (sameW a b)) ∧ Below w.heap.size w w' := rsame_all _ a b x y w A B (Nat.le_refl _) hx hy hA hB

end Go.Proofs.YtnamfjbfcbamjaaGreatDoor

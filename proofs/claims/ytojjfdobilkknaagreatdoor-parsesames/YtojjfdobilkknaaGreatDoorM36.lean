/- Same, of the program and of the document: whether two words are the same.; slices.EqualFunc over rows: Word.; slices.EqualFunc over rows: Let. -/
import Derived.Test.YtojjfdobilkknaaGreatDoorM12
import Derived.Test.YtojjfdobilkknaaGreatDoorM23
import Derived.Test.YtojjfdobilkknaaGreatDoorM35
set_option maxRecDepth 20000
set_option maxHeartbeats 4000000
namespace Go.Proofs.YtojjfdobilkknaaGreatDoor
open Go.RowKit
def SameN (f N : Nat) : Prop := ∀ (a b : List Prt) (x y : Value) (w : World) (A B : Nat → Prop), SizeOf.sizeOf a ≤ N → WAt w A x a → WAt w B y b → (∀ k, A k → k < w.heap.size) → (∀ k, B k → k < w.heap.size) →
 Calls Tryz.prog f #[x, y] w fun e w' => e = .returned (.bool (sameW a b)) ∧ Below w.heap.size w w'
def headP (p q : Prt) : Bool := p.kind == q.kind && p.text == q.text && p.quote == q.quote && p.op == q.op && p.colon == q.colon
theorem sameP_head (p q : Prt) : sameP p q = (headP p q && sameW p.sub q.sub) := by
 obtain ⟨k, t, u, o, c, s⟩ := p
 obtain ⟨k', t', u', o', c', s'⟩ := q
 rw [sameP_mk]
 rfl
theorem samePart_any {N : Nat} (hS : SameN 18 N) (p q : Prt) (x y : Value) (w : World) (A B : Nat → Prop) (hp : SizeOf.sizeOf p.sub ≤ N) (hx : PV w A x p) (hy : PV w B y q) (hA : ∀ k, A k → k < w.heap.size) (hB : ∀ k, B k → k < w.heap.size) :
 Calls Tryz.prog 46 #[x, y] w fun e w' => e = .returned (.bool (sameP p q)) ∧ Below w.heap.size w w' := by
 obtain ⟨vx, rfl, hx⟩ := hx
 obtain ⟨vy, rfl, hy⟩ := hy
 rw [sameP_head]
 have HW : Hid (∀ w1 : World, Below w.heap.size w w1 → Calls Tryz.prog 18 #[vx, vy] w1 fun e w' => e = .returned (.bool (sameW p.sub q.sub)) ∧ Below w1.heap.size w1 w') := hide (fun w1 hb =>
  hS _ _ _ _ w1 A B hp (hx.below hb hA) (hy.below hb hB) (fun k h => lle (hA k h) hb.size) (fun k h => lle (hB k h) hb.size))
 have HB : Hid (∀ x y, Below w.heap.size w ((w.alloc x).alloc y)) := hide (fun x y => ((Below.refl _ w).alloc (ler _) _).alloc (by simp) _)
 clear hx hy hS hp hA hB
 go_enter Tryz.func46, Tryz.ntmps46
 go_wp2_with (go_at_call 18; refine (uh HW _ (uh HB _ _)).mono ?_; rintro e w1 ⟨rfl, b1⟩)
 all_goals
  try rw [BA_toList, BA_toList] at *
  go_ret
  refine ⟨ret_bool (by simp [headP, *]), ?_⟩
  first
  | exact uh HB _ _
  | exact (uh HB _ _).trans (b1.mono (by simp; omega))
theorem drop_same {a b : List Prt} {k : Nat} {p q : Prt} (ha : a[k]? = some p) (hb : b[k]? = some q) : sameW (a.drop k) (b.drop k) = (sameP p q && sameW (a.drop (k + 1)) (b.drop (k + 1))) := by
 obtain ⟨h1, h2⟩ := List.getElem?_eq_some_iff.1 ha
 obtain ⟨h3, h4⟩ := List.getElem?_eq_some_iff.1 hb
 rw [List.drop_eq_getElem_cons h1, List.drop_eq_getElem_cons h3, sameW_cons, h2, h4]
theorem get_ex {l : List Prt} {k : Nat} (h : k < l.length) : ∃ p, l[k]? = some p := ⟨l[k], List.getElem?_eq_getElem h⟩
theorem mem_of {l : List Prt} {k : Nat} {p : Prt} (h : l[k]? = some p) : p ∈ l := List.mem_of_getElem? h
theorem equal_any {N : Nat} (hS : SameN 18 N) (a b : List Prt) (x y : Value) (w : World) (A B : Nat → Prop) (hN : SizeOf.sizeOf a ≤ N + 1) (hx : WAt w A x a) (hy : WAt w B y b) (hA : ∀ k, A k → k < w.heap.size) (hB : ∀ k, B k → k < w.heap.size) :
 Calls Tryz.prog 45 #[x, y, .func (Fn.func 46) #[] #[]] w fun e w' => e = .returned (.bool (sameW a b)) ∧ Below w.heap.size w w' := by
 obtain ⟨ada, capa, rfl, hla⟩ := hx.len
 obtain ⟨adb, capb, rfl, hlb⟩ := hy.len
 by_cases hab : a.length = b.length
 ·have HX := hide hx
  have HY := hide hy
  have HAB := hide hab
  clear hx hy
  rw [← hab]
  have HS := hide hS
  have HSN := hide hN
  clear hab hlb hS hN
  go_enter Tryz.func45, Tryz.ntmps45
  go_wp2
  go_loopw [17] (fun i wr => ∃ k : Nat, k ≤ a.length ∧ i = .int .i64 k ∧ Hid (sameW (a.drop k) (b.drop k) = sameW a b) ∧ Hid (Below w.heap.size w wr)) (fun i _ => a.length - (intOf i).toNat)
  case atStart => exact ⟨0, Nat.zero_le _, rfl, hide rfl, hide (Below.refl _ _)⟩
  case round =>
   obtain ⟨k, hk, rfl, HE, HB⟩ := hrel
   by_cases hlt : k < a.length
   ·obtain ⟨p, hp⟩ := get_ex hlt
    obtain ⟨q, hq⟩ := get_ex (l := b) (k := k) (by have := uh HAB; omega)
    obtain ⟨ga, oa, va, ea, hga, a0, a1, a2, a3, a4, a5, hsa⟩ := ((uh HX).below (uh HB) hA).part hp
    have hy' := (uh HY).below (uh HB) hB
    rw [← uh HAB] at hy'
    obtain ⟨gb, ob, vb, eb, hgb, b0, b1, b2, b3, b4, b5, hsb⟩ := hy'.part hq
    obtain ⟨ada', capa', rfl, _⟩ := hsa.len
    obtain ⟨adb', capb', rfl, _⟩ := hsb.len
    have hga' := lle (hA _ hga) (uh HB).size
    have hgb' := lle (hB _ hgb) (uh HB).size
    have HSP : Hid (∀ w1, Below wr.heap.size wr w1 → Calls Tryz.prog 46 #[.agg #[.int .i64 p.kind, .string (BA p.text), .bool p.quote, .int .i64 p.op, .bool p.colon, .slice ada' p.sub.length capa'], .agg #[.int .i64 q.kind, .string (BA q.text), .bool q.quote, .int .i64 q.op, .bool q.colon, .slice adb' q.sub.length capb']] w1 fun e w' => e = .returned (.bool (sameP p q)) ∧ Below w1.heap.size w1 w') := hide (fun w1 h1 =>
     samePart_any (uh HS) p q _ _ w1 A B (by have := sub_lt p a (mem_of hp); have := uh HSN; omega) ⟨_, rfl, hsa.below h1 (fun k h => lle (hA k h) (uh HB).size)⟩ ⟨_, rfl, hsb.below h1 (fun k h => lle (hB k h) (uh HB).size)⟩
      (fun k h => lle (hA k h) (lee (uh HB).size h1.size)) (fun k h => lle (hB k h) (lee (uh HB).size h1.size)))
    have HBB : Hid (∀ x y, Below wr.heap.size wr ((wr.alloc x).alloc y)) := hide (fun x y => ((Below.refl _ wr).alloc (ler _) _).alloc (by simp) _)
    have HST : Hid (sameW (a.drop k) (b.drop k) = (sameP p q && sameW (a.drop (k + 1)) (b.drop (k + 1)))) := hide (drop_same hp hq)
    clear hp hq hsa hsb hy' hga hgb
    subst ea eb
    rcases Bool.eq_false_or_eq_true (sameP p q) with hpq | hpq
    ·rw [hpq] at HSP HST
     go_wp2_with (go_at_call 46; refine (uh HSP _ (uh HBB _ _)).mono ?_; rintro e w1 ⟨rfl, b1⟩)
     go_roundw
     case rel => exact ⟨k + 1, by omega, by go_num, hide (by rw [← uh HE, uh HST]; rfl), hide ((uh HB).trans (((uh HBB _ _).trans (b1.mono (by simp; omega))).mono (uh HB).size))⟩
     case measure => simp [intOf]; omega
    ·rw [hpq] at HSP HST
     go_wp2_with (go_at_call 46; refine (uh HSP _ (uh HBB _ _)).mono ?_; rintro e w1 ⟨rfl, b1⟩)
     go_ret
     exact ⟨ret_bool (by rw [← uh HE, uh HST]; rfl), (uh HB).trans (((uh HBB _ _).trans (b1.mono (by simp; omega))).mono (uh HB).size)⟩
   ·go_wp2
    go_ret
    exact ⟨ret_bool (by rw [← uh HE, List.drop_eq_nil_of_le (by omega), List.drop_eq_nil_of_le (by have := uh HAB; omega), sameW_nil]), uh HB⟩
 ·have hne : ((a.length : Int) == (b.length : Int)) = false := by rw [beq_eq_false_iff_ne]; omega
  go_enter Tryz.func45, Tryz.ntmps45
  go_wp2
  go_ret
  exact ⟨ret_bool (sameW_len hab).symm, Below.refl _ _⟩
theorem same_all : ∀ N : Nat, SameN 18 N
 | 0 => fun a b x y w A B hN => absurd hN (by cases a <;> simp)
 | N + 1 => by
   intro a b x y w A B hN hx hy hA hB
   have HC := hide (fun w1 (h1 : w1 = w) => (by rw [h1]; exact equal_any (same_all N) a b x y w A B hN hx hy hA hB : Calls Tryz.prog 45 #[x, y, .func (Fn.func 46) #[] #[]] w1 fun e w' => e = .returned (.bool (sameW a b)) ∧ Below w.heap.size w w'))
   clear hx hy hN hA hB
   go_enter Tryz.func18, Tryz.ntmps18
   go_wp2_with fail
   refine (uh HC _ rfl).mono ?_
   rintro e w1 ⟨rfl, b1⟩
   go_wp2
   go_ret
   exact ⟨rfl, b1⟩
theorem same_any (a b : List Prt) (x y : Value) (w : World) (A B : Nat → Prop) (hx : WAt w A x a) (hy : WAt w B y b) (hA : ∀ k, A k → k < w.heap.size) (hB : ∀ k, B k → k < w.heap.size) :
 Calls Tryz.prog 18 #[x, y] w fun e w' => e = .returned (.bool (sameW a b)) ∧ Below w.heap.size w w' := same_all _ a b x y w A B (ler _) hx hy hA hB
def eqF {α : Type} (f : α → α → Bool) : List α → List α → Bool
 | [], [] => true
 | a :: l, b :: r => f a b && eqF f l r
 | _, _ => false
theorem eqF_len {α : Type} {f : α → α → Bool} : ∀ {a b : List α}, a.length ≠ b.length → eqF f a b = false
 | [], [], h => absurd rfl h
 | [], _ :: _, _ => rfl
 | _ :: _, [], _ => rfl
 | a :: l, b :: r, h => by
   rw [eqF, eqF_len (a := l) (b := r) (fun e => h (by simp [e])), Bool.and_false]
theorem eqF_drop {α : Type} {f : α → α → Bool} {a b : List α} {k : Nat} {p q : α} (ha : a[k]? = some p) (hb : b[k]? = some q) : eqF f (a.drop k) (b.drop k) = (f p q && eqF f (a.drop (k + 1)) (b.drop (k + 1))) := by
 obtain ⟨h1, h2⟩ := List.getElem?_eq_some_iff.1 ha
 obtain ⟨h3, h4⟩ := List.getElem?_eq_some_iff.1 hb
 rw [List.drop_eq_getElem_cons h1, List.drop_eq_getElem_cons h3, eqF, h2, h4]
theorem eq_Word (f : Wd → Wd → Bool) (a b : List Wd) (x y : Value) (w : World) (A B : Nat → Prop) (hn : a.length ≤ 9223372036854775806) (hx : RowAt Kw w A x a) (hy : RowAt Kw w B y b) (hA : ∀ k, A k → k < w.heap.size) (hB : ∀ k, B k → k < w.heap.size)
 (hq : ∀ (W : World), Below w.heap.size w W → ∀ (i : Nat) (p q : Wd) (cs ds : List Value), a[i]? = some p → b[i]? = some q → Kw.rel W A p cs → Kw.rel W B q ds → Calls Tryz.prog 18 #[cs.headD undef, ds.headD undef] W fun e w' => e = .returned (.bool (f p q)) ∧ Below W.heap.size W w') :
 Calls Tryz.prog 17 #[x, y, .func (Fn.func 18) #[] #[]] w fun e w' => e = .returned (.bool (eqF f a b)) ∧ Below w.heap.size w w' := by
 obtain ⟨ada, capa, hxs⟩ := hx.slice
 obtain ⟨adb, capb, hys⟩ := hy.slice
 by_cases hab : a.length = b.length
 ·have HEL : Hid (∀ W, Below w.heap.size w W → ∀ (i : Nat) (p q : Wd), a[i]? = some p → b[i]? = some q → ∃ (ga gb : Nat) (va1 : Option Addr) (vn1 vc1 : Nat) (va2 : Option Addr) (vn2 vc2 : Nat), (ada = some ⟨ga, 0, none⟩ ∧ ga < W.heap.size ∧ W.cell? ⟨ga, i, none⟩ = some (.slice va1 vn1 vc1)) ∧ (adb = some ⟨gb, 0, none⟩ ∧ gb < W.heap.size ∧ W.cell? ⟨gb, i, none⟩ = some (.slice va2 vn2 vc2)) ∧ ∀ W', Below W.heap.size W W' → Calls Tryz.prog 18 #[.slice va1 vn1 vc1, .slice va2 vn2 vc2] W' fun e w' => e = .returned (.bool (f p q)) ∧ Below W'.heap.size W' w') := hide (fun W hb i p q hp hq2 => by
   have hx2 := hx.kept (fun k hk => hb.block k (hA k hk)) (fun k hk => hk)
   have hy2 := hy.kept (fun k hk => hb.block k (hB k hk)) (fun k hk => hk)
   obtain ⟨ga, ca, e1, hga, hel1⟩ := hx2.el (by have := (List.getElem?_eq_some_iff.1 hp).1; omega)
   obtain ⟨gb, cb, e2, hgb, hel2⟩ := hy2.el (by have := (List.getElem?_eq_some_iff.1 hq2).1; omega)
   obtain ⟨cs, r1, hc1⟩ := hel1 i p hp
   obtain ⟨ds, r2, hc2⟩ := hel2 i q hq2
   have R1 := r1
   have R2 := r2
   rw [hxs] at e1
   rw [hys] at e2
   injection e1 with e1
   injection e2 with e2
   obtain ⟨v1, rfl, hv1⟩ := r1
   obtain ⟨va1, vc1, rfl, _⟩ := hv1.len
   obtain ⟨v2, rfl, hv2⟩ := r2
   obtain ⟨va2, vc2, rfl, _⟩ := hv2.len
   have HC := fun W' (hb' : Below W.heap.size W W') => hq W' (hb.trans (hb'.mono hb.size)) i p q _ _ hp hq2 (Kw.kept R1 (fun k hk => hb'.block k (lle (hA k hk) hb.size)) (fun k hk => hk)) (Kw.kept R2 (fun k hk => hb'.block k (lle (hB k hk) hb.size)) (fun k hk => hk))
   exact ⟨ga, gb, va1, _, vc1, va2, _, vc2, ⟨e1, lle (hA _ hga) hb.size, by simpa [Kw] using hc1 0 _ rfl⟩, ⟨e2, lle (hB _ hgb) hb.size, by simpa [Kw] using hc2 0 _ rfl⟩, fun W' hb' => HC W' hb'⟩)
  subst hxs hys
  have HAB := hide hab
  rw [← hab]
  clear hx hy hA hB hq hab
  obtain ⟨n, hnl⟩ : ∃ n, n = a.length := ⟨_, rfl⟩
  rw [← hnl] at hn ⊢
  have HNL := hide hnl
  clear hnl
  go_enter Tryz.func17, Tryz.ntmps17
  go_wp2_with fail
  go_loopw [17] (fun i wr => ∃ k : Nat, k ≤ n ∧ i = .int .i64 k ∧ Hid (eqF f (a.drop k) (b.drop k) = eqF f a b ∧ Below w.heap.size w wr)) (fun i _ => n - (intOf i).toNat)
  case atStart => exact ⟨0, Nat.zero_le _, rfl, hide ⟨rfl, Below.refl _ _⟩⟩
  case round =>
   obtain ⟨k, hk, rfl, HH⟩ := hrel
   by_cases hkn : k < n
   ·obtain ⟨p, hp⟩ : ∃ p, a[k]? = some p := ⟨a[k]'(by rw [← uh HNL]; exact hkn), List.getElem?_eq_getElem _⟩
    obtain ⟨q, hq⟩ : ∃ q, b[k]? = some q := ⟨b[k]'(by rw [← uh HAB, ← uh HNL]; exact hkn), List.getElem?_eq_getElem _⟩
    obtain ⟨ga, gb, va1, vn1, vc1, va2, vn2, vc2, ⟨rfl, hga, a0⟩, ⟨rfl, hgb, b0⟩, hcall⟩ := uh HEL _ (uh HH).2 k p q hp hq
    have HST : Hid (eqF f (a.drop k) (b.drop k) = (f p q && eqF f (a.drop (k + 1)) (b.drop (k + 1)))) := hide (eqF_drop hp hq)
    have HCALL := hide hcall
    have HBB : Hid (∀ x y, Below wr.heap.size wr ((wr.alloc x).alloc y)) := hide (fun x y => ((Below.refl _ wr).alloc (ler _) _).alloc (by simp) _)
    have HB0 := hide (Below.refl wr.heap.size wr)
    have hki : (k : Int) < (n : Int) := by omega
    clear hp hq hcall HEL
    obtain ⟨B0, hB0⟩ : ∃ B0, f p q = B0 := ⟨_, rfl⟩
    rw [hB0] at HST HCALL
    cases B0 with
    | true =>
      go_wp2_with (go_at_call 18; refine (uh HCALL _ (by first | exact uh HB0 | exact uh HBB _ _)).mono ?_; rintro e w1 ⟨rfl, b1⟩)
      go_roundw
      case rel => exact ⟨k + 1, by omega, by go_num, hide ⟨by rw [← (uh HH).1, uh HST]; rfl, (uh HH).2.trans (b1.mono (uh HH).2.size)⟩⟩
      case measure => simp [intOf]; omega
    | false =>
      go_wp2_with (go_at_call 18; refine (uh HCALL _ (by first | exact uh HB0 | exact uh HBB _ _)).mono ?_; rintro e w1 ⟨rfl, b1⟩)
      go_ret
      exact ⟨ret_bool (by rw [← (uh HH).1, uh HST]; rfl), (uh HH).2.trans (b1.mono (uh HH).2.size)⟩
   ·have hki : ¬ (k : Int) < (n : Int) := by omega
    clear HEL
    go_wp2_with fail
    go_ret
    exact ⟨ret_bool (by rw [← (uh HH).1, List.drop_eq_nil_of_le (by rw [← uh HNL]; omega), List.drop_eq_nil_of_le (by rw [← uh HAB, ← uh HNL]; omega)]; rfl), (uh HH).2⟩
 ·subst hxs hys
  have hne : ((a.length : Int) == (b.length : Int)) = false := by rw [beq_eq_false_iff_ne]; omega
  have hf := eqF_len (f := f) hab
  rw [hf]
  clear hx hy hq hab hf
  go_enter Tryz.func17, Tryz.ntmps17
  go_wp2_with fail
  go_ret
  exact ⟨rfl, Below.refl _ _⟩
theorem eq_Let (f : (List UInt8 × Wd) → (List UInt8 × Wd) → Bool) (a b : List (List UInt8 × Wd)) (x y : Value) (w : World) (A B : Nat → Prop) (hn : a.length ≤ 9223372036854775806) (hx : RowAt Kl w A x a) (hy : RowAt Kl w B y b) (hA : ∀ k, A k → k < w.heap.size) (hB : ∀ k, B k → k < w.heap.size)
 (hq : ∀ (W : World), Below w.heap.size w W → ∀ (i : Nat) (p q : (List UInt8 × Wd)) (cs ds : List Value), a[i]? = some p → b[i]? = some q → Kl.rel W A p cs → Kl.rel W B q ds → Calls Tryz.prog 16 #[.agg cs.toArray, .agg ds.toArray] W fun e w' => e = .returned (.bool (f p q)) ∧ Below W.heap.size W w') :
 Calls Tryz.prog 15 #[x, y, .func (Fn.func 16) #[] #[]] w fun e w' => e = .returned (.bool (eqF f a b)) ∧ Below w.heap.size w w' := by
 obtain ⟨ada, capa, hxs⟩ := hx.slice
 obtain ⟨adb, capb, hys⟩ := hy.slice
 by_cases hab : a.length = b.length
 ·have HEL : Hid (∀ W, Below w.heap.size w W → ∀ (i : Nat) (p q : (List UInt8 × Wd)), a[i]? = some p → b[i]? = some q → ∃ (ga gb : Nat) (m1 : ByteArray) (va1 : Option Addr) (vn1 vc1 : Nat) (m2 : ByteArray) (va2 : Option Addr) (vn2 vc2 : Nat), (ada = some ⟨ga, 0, none⟩ ∧ ga < W.heap.size ∧ W.cell? ⟨ga, i * 2, none⟩ = some (.string m1) ∧ W.cell? ⟨ga, i * 2 + 1, none⟩ = some (.slice va1 vn1 vc1)) ∧ (adb = some ⟨gb, 0, none⟩ ∧ gb < W.heap.size ∧ W.cell? ⟨gb, i * 2, none⟩ = some (.string m2) ∧ W.cell? ⟨gb, i * 2 + 1, none⟩ = some (.slice va2 vn2 vc2)) ∧ ∀ W', Below W.heap.size W W' → Calls Tryz.prog 16 #[.agg #[.string m1, .slice va1 vn1 vc1], .agg #[.string m2, .slice va2 vn2 vc2]] W' fun e w' => e = .returned (.bool (f p q)) ∧ Below W'.heap.size W' w') := hide (fun W hb i p q hp hq2 => by
   have hx2 := hx.kept (fun k hk => hb.block k (hA k hk)) (fun k hk => hk)
   have hy2 := hy.kept (fun k hk => hb.block k (hB k hk)) (fun k hk => hk)
   obtain ⟨ga, ca, e1, hga, hel1⟩ := hx2.el (by have := (List.getElem?_eq_some_iff.1 hp).1; omega)
   obtain ⟨gb, cb, e2, hgb, hel2⟩ := hy2.el (by have := (List.getElem?_eq_some_iff.1 hq2).1; omega)
   obtain ⟨cs, r1, hc1⟩ := hel1 i p hp
   obtain ⟨ds, r2, hc2⟩ := hel2 i q hq2
   have R1 := r1
   have R2 := r2
   rw [hxs] at e1
   rw [hys] at e2
   injection e1 with e1
   injection e2 with e2
   obtain ⟨v1, rfl, hv1⟩ := r1
   obtain ⟨va1, vc1, rfl, _⟩ := hv1.len
   obtain ⟨v2, rfl, hv2⟩ := r2
   obtain ⟨va2, vc2, rfl, _⟩ := hv2.len
   have HC := fun W' (hb' : Below W.heap.size W W') => hq W' (hb.trans (hb'.mono hb.size)) i p q _ _ hp hq2 (Kl.kept R1 (fun k hk => hb'.block k (lle (hA k hk) hb.size)) (fun k hk => hk)) (Kl.kept R2 (fun k hk => hb'.block k (lle (hB k hk) hb.size)) (fun k hk => hk))
   exact ⟨ga, gb, _, va1, _, vc1, _, va2, _, vc2, ⟨e1, lle (hA _ hga) hb.size, hc1 0 _ rfl, hc1 1 _ rfl⟩, ⟨e2, lle (hB _ hgb) hb.size, hc2 0 _ rfl, hc2 1 _ rfl⟩, fun W' hb' => HC W' hb'⟩)
  subst hxs hys
  have HAB := hide hab
  rw [← hab]
  clear hx hy hA hB hq hab
  obtain ⟨n, hnl⟩ : ∃ n, n = a.length := ⟨_, rfl⟩
  rw [← hnl] at hn ⊢
  have HNL := hide hnl
  clear hnl
  go_enter Tryz.func15, Tryz.ntmps15
  go_wp2_with fail
  go_loopw [17] (fun i wr => ∃ k : Nat, k ≤ n ∧ i = .int .i64 k ∧ Hid (eqF f (a.drop k) (b.drop k) = eqF f a b ∧ Below w.heap.size w wr)) (fun i _ => n - (intOf i).toNat)
  case atStart => exact ⟨0, Nat.zero_le _, rfl, hide ⟨rfl, Below.refl _ _⟩⟩
  case round =>
   obtain ⟨k, hk, rfl, HH⟩ := hrel
   by_cases hkn : k < n
   ·obtain ⟨p, hp⟩ : ∃ p, a[k]? = some p := ⟨a[k]'(by rw [← uh HNL]; exact hkn), List.getElem?_eq_getElem _⟩
    obtain ⟨q, hq⟩ : ∃ q, b[k]? = some q := ⟨b[k]'(by rw [← uh HAB, ← uh HNL]; exact hkn), List.getElem?_eq_getElem _⟩
    obtain ⟨ga, gb, m1, va1, vn1, vc1, m2, va2, vn2, vc2, ⟨rfl, hga, a0, a1⟩, ⟨rfl, hgb, b0, b1⟩, hcall⟩ := uh HEL _ (uh HH).2 k p q hp hq
    have HST : Hid (eqF f (a.drop k) (b.drop k) = (f p q && eqF f (a.drop (k + 1)) (b.drop (k + 1)))) := hide (eqF_drop hp hq)
    have HCALL := hide hcall
    have HBB : Hid (∀ x y, Below wr.heap.size wr ((wr.alloc x).alloc y)) := hide (fun x y => ((Below.refl _ wr).alloc (ler _) _).alloc (by simp) _)
    have HB0 := hide (Below.refl wr.heap.size wr)
    have hki : (k : Int) < (n : Int) := by omega
    clear hp hq hcall HEL
    obtain ⟨B0, hB0⟩ : ∃ B0, f p q = B0 := ⟨_, rfl⟩
    rw [hB0] at HST HCALL
    cases B0 with
    | true =>
      go_wp2_with (go_at_call 16; refine (uh HCALL _ (by first | exact uh HB0 | exact uh HBB _ _)).mono ?_; rintro e w1 ⟨rfl, b1⟩)
      go_roundw
      case rel => exact ⟨k + 1, by omega, by go_num, hide ⟨by rw [← (uh HH).1, uh HST]; rfl, (uh HH).2.trans (((uh HBB _ _).trans (b1.mono (by simp; omega))).mono (uh HH).2.size)⟩⟩
      case measure => simp [intOf]; omega
    | false =>
      go_wp2_with (go_at_call 16; refine (uh HCALL _ (by first | exact uh HB0 | exact uh HBB _ _)).mono ?_; rintro e w1 ⟨rfl, b1⟩)
      go_ret
      exact ⟨ret_bool (by rw [← (uh HH).1, uh HST]; rfl), (uh HH).2.trans (((uh HBB _ _).trans (b1.mono (by simp; omega))).mono (uh HH).2.size)⟩
   ·have hki : ¬ (k : Int) < (n : Int) := by omega
    clear HEL
    go_wp2_with fail
    go_ret
    exact ⟨ret_bool (by rw [← (uh HH).1, List.drop_eq_nil_of_le (by rw [← uh HNL]; omega), List.drop_eq_nil_of_le (by rw [← uh HAB, ← uh HNL]; omega)]; rfl), (uh HH).2⟩
 ·subst hxs hys
  have hne : ((a.length : Int) == (b.length : Int)) = false := by rw [beq_eq_false_iff_ne]; omega
  have hf := eqF_len (f := f) hab
  rw [hf]
  clear hx hy hq hab hf
  go_enter Tryz.func15, Tryz.ntmps15
  go_wp2_with fail
  go_ret
  exact ⟨rfl, Below.refl _ _⟩
end Go.Proofs.YtojjfdobilkknaaGreatDoor

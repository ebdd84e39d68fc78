/- slices.EqualFunc over rows: Redir.; slices.EqualFunc over rows: Item.; slices.EqualFunc over rows: Cmd. -/
import Derived.Test.YtojjfdobilkknaaGreatDoorM36
set_option maxRecDepth 20000
set_option maxHeartbeats 4000000
namespace Go.Proofs.YtojjfdobilkknaaGreatDoor
open Go.RowKit
theorem eq_Redir (f : (Int × Int × Wd) → (Int × Int × Wd) → Bool) (a b : List (Int × Int × Wd)) (x y : Value) (w : World) (A B : Nat → Prop) (hn : a.length ≤ 9223372036854775806) (hx : RowAt Kr w A x a) (hy : RowAt Kr w B y b) (hA : ∀ k, A k → k < w.heap.size) (hB : ∀ k, B k → k < w.heap.size)
 (hq : ∀ (W : World), Below w.heap.size w W → ∀ (i : Nat) (p q : (Int × Int × Wd)) (cs ds : List Value), a[i]? = some p → b[i]? = some q → Kr.rel W A p cs → Kr.rel W B q ds → Calls Tryz.prog 20 #[.agg cs.toArray, .agg ds.toArray] W fun e w' => e = .returned (.bool (f p q)) ∧ Below W.heap.size W w') :
 Calls Tryz.prog 19 #[x, y, .func (Fn.func 20) #[] #[]] w fun e w' => e = .returned (.bool (eqF f a b)) ∧ Below w.heap.size w w' := by
 obtain ⟨ada, capa, hxs⟩ := hx.slice
 obtain ⟨adb, capb, hys⟩ := hy.slice
 by_cases hab : a.length = b.length
 ·have HEL : Hid (∀ W, Below w.heap.size w W → ∀ (i : Nat) (p q : (Int × Int × Wd)), a[i]? = some p → b[i]? = some q → ∃ (ga gb : Nat) (fd1 kd1 : Int) (va1 : Option Addr) (vn1 vc1 : Nat) (fd2 kd2 : Int) (va2 : Option Addr) (vn2 vc2 : Nat), (ada = some ⟨ga, 0, none⟩ ∧ ga < W.heap.size ∧ W.cell? ⟨ga, i * 3, none⟩ = some (.int .i64 fd1) ∧ W.cell? ⟨ga, i * 3 + 1, none⟩ = some (.int .i64 kd1) ∧ W.cell? ⟨ga, i * 3 + 2, none⟩ = some (.slice va1 vn1 vc1)) ∧ (adb = some ⟨gb, 0, none⟩ ∧ gb < W.heap.size ∧ W.cell? ⟨gb, i * 3, none⟩ = some (.int .i64 fd2) ∧ W.cell? ⟨gb, i * 3 + 1, none⟩ = some (.int .i64 kd2) ∧ W.cell? ⟨gb, i * 3 + 2, none⟩ = some (.slice va2 vn2 vc2)) ∧ ∀ W', Below W.heap.size W W' → Calls Tryz.prog 20 #[.agg #[.int .i64 fd1, .int .i64 kd1, .slice va1 vn1 vc1], .agg #[.int .i64 fd2, .int .i64 kd2, .slice va2 vn2 vc2]] W' fun e w' => e = .returned (.bool (f p q)) ∧ Below W'.heap.size W' w') := hide (fun W hb i p q hp hq2 => by
   have hx2 := hx.kept (fun k hk => hb.block k (hA k hk)) (fun k hk => hk)
   have hy2 := hy.kept (fun k hk => hb.block k (hB k hk)) (fun k hk => hk)
   obtain ⟨ga, ca, e1, hga, hel1⟩ := hx2.el (by have := (List.getElem?_eq_some_iff.1 hp).1; omega)
   obtain ⟨gb, cb, e2, hgb, hel2⟩ := hy2.el (by have := (List.getElem?_eq_some_iff.1 hq2).1; omega)
   obtain ⟨cs, r1, hc1⟩ := hel1 i p hp
   obtain ⟨ds, r2, hc2⟩ := hel2 i q hq2
   have R1 := r1
   have R2 := r2
   rw [hxs] at e1
   rw [hys] at e2
   injection e1 with e1
   injection e2 with e2
   obtain ⟨v1, rfl, hv1⟩ := r1
   obtain ⟨va1, vc1, rfl, _⟩ := hv1.len
   obtain ⟨v2, rfl, hv2⟩ := r2
   obtain ⟨va2, vc2, rfl, _⟩ := hv2.len
   have HC := fun W' (hb' : Below W.heap.size W W') => hq W' (hb.trans (hb'.mono hb.size)) i p q _ _ hp hq2 (Kr.kept R1 (fun k hk => hb'.block k (lle (hA k hk) hb.size)) (fun k hk => hk)) (Kr.kept R2 (fun k hk => hb'.block k (lle (hB k hk) hb.size)) (fun k hk => hk))
   exact ⟨ga, gb, _, _, va1, _, vc1, _, _, va2, _, vc2, ⟨e1, lle (hA _ hga) hb.size, hc1 0 _ rfl, hc1 1 _ rfl, hc1 2 _ rfl⟩, ⟨e2, lle (hB _ hgb) hb.size, hc2 0 _ rfl, hc2 1 _ rfl, hc2 2 _ rfl⟩, fun W' hb' => HC W' hb'⟩)
  subst hxs hys
  have HAB := hide hab
  rw [← hab]
  clear hx hy hA hB hq hab
  obtain ⟨n, hnl⟩ : ∃ n, n = a.length := ⟨_, rfl⟩
  rw [← hnl] at hn ⊢
  have HNL := hide hnl
  clear hnl
  go_enter Tryz.func19, Tryz.ntmps19
  go_wp2_with fail
  go_loopw [17] (fun i wr => ∃ k : Nat, k ≤ n ∧ i = .int .i64 k ∧ Hid (eqF f (a.drop k) (b.drop k) = eqF f a b ∧ Below w.heap.size w wr)) (fun i _ => n - (intOf i).toNat)
  case atStart => exact ⟨0, Nat.zero_le _, rfl, hide ⟨rfl, Below.refl _ _⟩⟩
  case round =>
   obtain ⟨k, hk, rfl, HH⟩ := hrel
   by_cases hkn : k < n
   ·obtain ⟨p, hp⟩ : ∃ p, a[k]? = some p := ⟨a[k]'(by rw [← uh HNL]; exact hkn), List.getElem?_eq_getElem _⟩
    obtain ⟨q, hq⟩ : ∃ q, b[k]? = some q := ⟨b[k]'(by rw [← uh HAB, ← uh HNL]; exact hkn), List.getElem?_eq_getElem _⟩
    obtain ⟨ga, gb, fd1, kd1, va1, vn1, vc1, fd2, kd2, va2, vn2, vc2, ⟨rfl, hga, a0, a1, a2⟩, ⟨rfl, hgb, b0, b1, b2⟩, hcall⟩ := uh HEL _ (uh HH).2 k p q hp hq
    have HST : Hid (eqF f (a.drop k) (b.drop k) = (f p q && eqF f (a.drop (k + 1)) (b.drop (k + 1)))) := hide (eqF_drop hp hq)
    have HCALL := hide hcall
    have HBB : Hid (∀ x y, Below wr.heap.size wr ((wr.alloc x).alloc y)) := hide (fun x y => ((Below.refl _ wr).alloc (ler _) _).alloc (by simp) _)
    have HB0 := hide (Below.refl wr.heap.size wr)
    have hki : (k : Int) < (n : Int) := by omega
    clear hp hq hcall HEL
    obtain ⟨B0, hB0⟩ : ∃ B0, f p q = B0 := ⟨_, rfl⟩
    rw [hB0] at HST HCALL
    cases B0 with
    | true =>
      go_wp2_with (go_at_call 20; refine (uh HCALL _ (by first | exact uh HB0 | exact uh HBB _ _)).mono ?_; rintro e w1 ⟨rfl, b1⟩)
      go_roundw
      case rel => exact ⟨k + 1, by omega, by go_num, hide ⟨by rw [← (uh HH).1, uh HST]; rfl, (uh HH).2.trans (((uh HBB _ _).trans (b1.mono (by simp; omega))).mono (uh HH).2.size)⟩⟩
      case measure => simp [intOf]; omega
    | false =>
      go_wp2_with (go_at_call 20; refine (uh HCALL _ (by first | exact uh HB0 | exact uh HBB _ _)).mono ?_; rintro e w1 ⟨rfl, b1⟩)
      go_ret
      exact ⟨ret_bool (by rw [← (uh HH).1, uh HST]; rfl), (uh HH).2.trans (((uh HBB _ _).trans (b1.mono (by simp; omega))).mono (uh HH).2.size)⟩
   ·have hki : ¬ (k : Int) < (n : Int) := by omega
    clear HEL
    go_wp2_with fail
    go_ret
    exact ⟨ret_bool (by rw [← (uh HH).1, List.drop_eq_nil_of_le (by rw [← uh HNL]; omega), List.drop_eq_nil_of_le (by rw [← uh HAB, ← uh HNL]; omega)]; rfl), (uh HH).2⟩
 ·subst hxs hys
  have hne : ((a.length : Int) == (b.length : Int)) = false := by rw [beq_eq_false_iff_ne]; omega
  have hf := eqF_len (f := f) hab
  rw [hf]
  clear hx hy hq hab hf
  go_enter Tryz.func19, Tryz.ntmps19
  go_wp2_with fail
  go_ret
  exact ⟨rfl, Below.refl _ _⟩
theorem eq_Item (f : (List Wd × List Cm) → (List Wd × List Cm) → Bool) (a b : List (List Wd × List Cm)) (x y : Value) (w : World) (A B : Nat → Prop) (hn : a.length ≤ 9223372036854775806) (hx : RowAt Ki w A x a) (hy : RowAt Ki w B y b) (hA : ∀ k, A k → k < w.heap.size) (hB : ∀ k, B k → k < w.heap.size)
 (hq : ∀ (W : World), Below w.heap.size w W → ∀ (i : Nat) (p q : (List Wd × List Cm)) (cs ds : List Value), a[i]? = some p → b[i]? = some q → Ki.rel W A p cs → Ki.rel W B q ds → Calls Tryz.prog 22 #[.agg cs.toArray, .agg ds.toArray] W fun e w' => e = .returned (.bool (f p q)) ∧ Below W.heap.size W w') :
 Calls Tryz.prog 21 #[x, y, .func (Fn.func 22) #[] #[]] w fun e w' => e = .returned (.bool (eqF f a b)) ∧ Below w.heap.size w w' := by
 obtain ⟨ada, capa, hxs⟩ := hx.slice
 obtain ⟨adb, capb, hys⟩ := hy.slice
 by_cases hab : a.length = b.length
 ·have HEL : Hid (∀ W, Below w.heap.size w W → ∀ (i : Nat) (p q : (List Wd × List Cm)), a[i]? = some p → b[i]? = some q → ∃ (ga gb : Nat) (va1 ua1 : Option Addr) (vn1 vc1 un1 uc1 : Nat) (va2 ua2 : Option Addr) (vn2 vc2 un2 uc2 : Nat), (ada = some ⟨ga, 0, none⟩ ∧ ga < W.heap.size ∧ W.cell? ⟨ga, i * 2, none⟩ = some (.slice va1 vn1 vc1) ∧ W.cell? ⟨ga, i * 2 + 1, none⟩ = some (.slice ua1 un1 uc1)) ∧ (adb = some ⟨gb, 0, none⟩ ∧ gb < W.heap.size ∧ W.cell? ⟨gb, i * 2, none⟩ = some (.slice va2 vn2 vc2) ∧ W.cell? ⟨gb, i * 2 + 1, none⟩ = some (.slice ua2 un2 uc2)) ∧ ∀ W', Below W.heap.size W W' → Calls Tryz.prog 22 #[.agg #[.slice va1 vn1 vc1, .slice ua1 un1 uc1], .agg #[.slice va2 vn2 vc2, .slice ua2 un2 uc2]] W' fun e w' => e = .returned (.bool (f p q)) ∧ Below W'.heap.size W' w') := hide (fun W hb i p q hp hq2 => by
   have hx2 := hx.kept (fun k hk => hb.block k (hA k hk)) (fun k hk => hk)
   have hy2 := hy.kept (fun k hk => hb.block k (hB k hk)) (fun k hk => hk)
   obtain ⟨ga, ca, e1, hga, hel1⟩ := hx2.el (by have := (List.getElem?_eq_some_iff.1 hp).1; omega)
   obtain ⟨gb, cb, e2, hgb, hel2⟩ := hy2.el (by have := (List.getElem?_eq_some_iff.1 hq2).1; omega)
   obtain ⟨cs, r1, hc1⟩ := hel1 i p hp
   obtain ⟨ds, r2, hc2⟩ := hel2 i q hq2
   have R1 := r1
   have R2 := r2
   rw [hxs] at e1
   rw [hys] at e2
   injection e1 with e1
   injection e2 with e2
   obtain ⟨v1, u1, rfl, hv1, hu1⟩ := r1
   obtain ⟨va1, vc1, rfl⟩ := hv1.slice
   obtain ⟨ua1, uc1, rfl⟩ := hu1.slice
   obtain ⟨v2, u2, rfl, hv2, hu2⟩ := r2
   obtain ⟨va2, vc2, rfl⟩ := hv2.slice
   obtain ⟨ua2, uc2, rfl⟩ := hu2.slice
   have HC := fun W' (hb' : Below W.heap.size W W') => hq W' (hb.trans (hb'.mono hb.size)) i p q _ _ hp hq2 (Ki.kept R1 (fun k hk => hb'.block k (lle (hA k hk) hb.size)) (fun k hk => hk)) (Ki.kept R2 (fun k hk => hb'.block k (lle (hB k hk) hb.size)) (fun k hk => hk))
   exact ⟨ga, gb, va1, ua1, _, vc1, _, uc1, va2, ua2, _, vc2, _, uc2, ⟨e1, lle (hA _ hga) hb.size, hc1 0 _ rfl, hc1 1 _ rfl⟩, ⟨e2, lle (hB _ hgb) hb.size, hc2 0 _ rfl, hc2 1 _ rfl⟩, fun W' hb' => HC W' hb'⟩)
  subst hxs hys
  have HAB := hide hab
  rw [← hab]
  clear hx hy hA hB hq hab
  obtain ⟨n, hnl⟩ : ∃ n, n = a.length := ⟨_, rfl⟩
  rw [← hnl] at hn ⊢
  have HNL := hide hnl
  clear hnl
  go_enter Tryz.func21, Tryz.ntmps21
  go_wp2_with fail
  go_loopw [17] (fun i wr => ∃ k : Nat, k ≤ n ∧ i = .int .i64 k ∧ Hid (eqF f (a.drop k) (b.drop k) = eqF f a b ∧ Below w.heap.size w wr)) (fun i _ => n - (intOf i).toNat)
  case atStart => exact ⟨0, Nat.zero_le _, rfl, hide ⟨rfl, Below.refl _ _⟩⟩
  case round =>
   obtain ⟨k, hk, rfl, HH⟩ := hrel
   by_cases hkn : k < n
   ·obtain ⟨p, hp⟩ : ∃ p, a[k]? = some p := ⟨a[k]'(by rw [← uh HNL]; exact hkn), List.getElem?_eq_getElem _⟩
    obtain ⟨q, hq⟩ : ∃ q, b[k]? = some q := ⟨b[k]'(by rw [← uh HAB, ← uh HNL]; exact hkn), List.getElem?_eq_getElem _⟩
    obtain ⟨ga, gb, va1, ua1, vn1, vc1, un1, uc1, va2, ua2, vn2, vc2, un2, uc2, ⟨rfl, hga, a0, a1⟩, ⟨rfl, hgb, b0, b1⟩, hcall⟩ := uh HEL _ (uh HH).2 k p q hp hq
    have HST : Hid (eqF f (a.drop k) (b.drop k) = (f p q && eqF f (a.drop (k + 1)) (b.drop (k + 1)))) := hide (eqF_drop hp hq)
    have HCALL := hide hcall
    have HBB : Hid (∀ x y, Below wr.heap.size wr ((wr.alloc x).alloc y)) := hide (fun x y => ((Below.refl _ wr).alloc (ler _) _).alloc (by simp) _)
    have HB0 := hide (Below.refl wr.heap.size wr)
    have hki : (k : Int) < (n : Int) := by omega
    clear hp hq hcall HEL
    obtain ⟨B0, hB0⟩ : ∃ B0, f p q = B0 := ⟨_, rfl⟩
    rw [hB0] at HST HCALL
    cases B0 with
    | true =>
      go_wp2_with (go_at_call 22; refine (uh HCALL _ (by first | exact uh HB0 | exact uh HBB _ _)).mono ?_; rintro e w1 ⟨rfl, b1⟩)
      go_roundw
      case rel => exact ⟨k + 1, by omega, by go_num, hide ⟨by rw [← (uh HH).1, uh HST]; rfl, (uh HH).2.trans (((uh HBB _ _).trans (b1.mono (by simp; omega))).mono (uh HH).2.size)⟩⟩
      case measure => simp [intOf]; omega
    | false =>
      go_wp2_with (go_at_call 22; refine (uh HCALL _ (by first | exact uh HB0 | exact uh HBB _ _)).mono ?_; rintro e w1 ⟨rfl, b1⟩)
      go_ret
      exact ⟨ret_bool (by rw [← (uh HH).1, uh HST]; rfl), (uh HH).2.trans (((uh HBB _ _).trans (b1.mono (by simp; omega))).mono (uh HH).2.size)⟩
   ·have hki : ¬ (k : Int) < (n : Int) := by omega
    clear HEL
    go_wp2_with fail
    go_ret
    exact ⟨ret_bool (by rw [← (uh HH).1, List.drop_eq_nil_of_le (by rw [← uh HNL]; omega), List.drop_eq_nil_of_le (by rw [← uh HAB, ← uh HNL]; omega)]; rfl), (uh HH).2⟩
 ·subst hxs hys
  have hne : ((a.length : Int) == (b.length : Int)) = false := by rw [beq_eq_false_iff_ne]; omega
  have hf := eqF_len (f := f) hab
  rw [hf]
  clear hx hy hq hab hf
  go_enter Tryz.func21, Tryz.ntmps21
  go_wp2_with fail
  go_ret
  exact ⟨rfl, Below.refl _ _⟩
theorem eq_Cmd (f : Cm → Cm → Bool) (a b : List Cm) (x y : Value) (w : World) (A B : Nat → Prop) (hn : a.length ≤ 9223372036854775806) (hx : RowAt Kc w A x a) (hy : RowAt Kc w B y b) (hA : ∀ k, A k → k < w.heap.size) (hB : ∀ k, B k → k < w.heap.size)
 (hq : ∀ (W : World), Below w.heap.size w W → ∀ (i : Nat) (p q : Cm) (cs ds : List Value), a[i]? = some p → b[i]? = some q → Kc.rel W A p cs → Kc.rel W B q ds → Calls Tryz.prog 6 #[.agg cs.toArray, .agg ds.toArray] W fun e w' => e = .returned (.bool (f p q)) ∧ Below W.heap.size W w') :
 Calls Tryz.prog 23 #[x, y, .func (Fn.func 6) #[] #[]] w fun e w' => e = .returned (.bool (eqF f a b)) ∧ Below w.heap.size w w' := by
 obtain ⟨ada, capa, hxs⟩ := hx.slice
 obtain ⟨adb, capb, hys⟩ := hy.slice
 by_cases hab : a.length = b.length
 ·have HEL : Hid (∀ W, Below w.heap.size w W → ∀ (i : Nat) (p q : Cm), a[i]? = some p → b[i]? = some q → ∃ (ga gb : Nat) (x1 : CV) (x2 : CV), (ada = some ⟨ga, 0, none⟩ ∧ ga < W.heap.size ∧ CC W ga i x1) ∧ (adb = some ⟨gb, 0, none⟩ ∧ gb < W.heap.size ∧ CC W gb i x2) ∧ ∀ W', Below W.heap.size W W' → Calls Tryz.prog 6 #[.agg #[.int .i64 x1.k, .bool x1.no, .slice x1.al x1.nl x1.cl, .slice x1.aw x1.nw x1.cw, .slice x1.ar x1.nr x1.cr, .slice x1.ac x1.nc x1.cc, .string (BA x1.nm), .bool x1.ev, .slice x1.ai x1.ni x1.ci], .agg #[.int .i64 x2.k, .bool x2.no, .slice x2.al x2.nl x2.cl, .slice x2.aw x2.nw x2.cw, .slice x2.ar x2.nr x2.cr, .slice x2.ac x2.nc x2.cc, .string (BA x2.nm), .bool x2.ev, .slice x2.ai x2.ni x2.ci]] W' fun e w' => e = .returned (.bool (f p q)) ∧ Below W'.heap.size W' w') := hide (fun W hb i p q hp hq2 => by
   have hx2 := hx.kept (fun k hk => hb.block k (hA k hk)) (fun k hk => hk)
   have hy2 := hy.kept (fun k hk => hb.block k (hB k hk)) (fun k hk => hk)
   obtain ⟨ga, ca, e1, hga, hel1⟩ := hx2.el (by have := (List.getElem?_eq_some_iff.1 hp).1; omega)
   obtain ⟨gb, cb, e2, hgb, hel2⟩ := hy2.el (by have := (List.getElem?_eq_some_iff.1 hq2).1; omega)
   obtain ⟨cs, r1, hc1⟩ := hel1 i p hp
   obtain ⟨ds, r2, hc2⟩ := hel2 i q hq2
   have R1 := r1
   have R2 := r2
   rw [hxs] at e1
   rw [hys] at e2
   injection e1 with e1
   injection e2 with e2
   obtain ⟨x1, rfl⟩ := CmAt.cv r1
   obtain ⟨x2, rfl⟩ := CmAt.cv r2
   have HC := fun W' (hb' : Below W.heap.size W W') => hq W' (hb.trans (hb'.mono hb.size)) i p q _ _ hp hq2 (Kc.kept R1 (fun k hk => hb'.block k (lle (hA k hk) hb.size)) (fun k hk => hk)) (Kc.kept R2 (fun k hk => hb'.block k (lle (hB k hk) hb.size)) (fun k hk => hk))
   exact ⟨ga, gb, x1, x2, ⟨e1, lle (hA _ hga) hb.size, hc1 0 _ rfl, hc1 1 _ rfl, hc1 2 _ rfl, hc1 3 _ rfl, hc1 4 _ rfl, hc1 5 _ rfl, hc1 6 _ rfl, hc1 7 _ rfl, hc1 8 _ rfl⟩, ⟨e2, lle (hB _ hgb) hb.size, hc2 0 _ rfl, hc2 1 _ rfl, hc2 2 _ rfl, hc2 3 _ rfl, hc2 4 _ rfl, hc2 5 _ rfl, hc2 6 _ rfl, hc2 7 _ rfl, hc2 8 _ rfl⟩, fun W' hb' => HC W' hb'⟩)
  subst hxs hys
  have HAB := hide hab
  rw [← hab]
  clear hx hy hA hB hq hab
  obtain ⟨n, hnl⟩ : ∃ n, n = a.length := ⟨_, rfl⟩
  rw [← hnl] at hn ⊢
  have HNL := hide hnl
  clear hnl
  go_enter Tryz.func23, Tryz.ntmps23
  go_wp2_with fail
  go_loopw [17] (fun i wr => ∃ k : Nat, k ≤ n ∧ i = .int .i64 k ∧ Hid (eqF f (a.drop k) (b.drop k) = eqF f a b ∧ Below w.heap.size w wr)) (fun i _ => n - (intOf i).toNat)
  case atStart => exact ⟨0, Nat.zero_le _, rfl, hide ⟨rfl, Below.refl _ _⟩⟩
  case round =>
   obtain ⟨k, hk, rfl, HH⟩ := hrel
   by_cases hkn : k < n
   ·obtain ⟨p, hp⟩ : ∃ p, a[k]? = some p := ⟨a[k]'(by rw [← uh HNL]; exact hkn), List.getElem?_eq_getElem _⟩
    obtain ⟨q, hq⟩ : ∃ q, b[k]? = some q := ⟨b[k]'(by rw [← uh HAB, ← uh HNL]; exact hkn), List.getElem?_eq_getElem _⟩
    obtain ⟨ga, gb, x1, x2, ⟨rfl, hga, a0, a1, a2, a3, a4, a5, a6, a7, a8⟩, ⟨rfl, hgb, b0, b1, b2, b3, b4, b5, b6, b7, b8⟩, hcall⟩ := uh HEL _ (uh HH).2 k p q hp hq
    have HST : Hid (eqF f (a.drop k) (b.drop k) = (f p q && eqF f (a.drop (k + 1)) (b.drop (k + 1)))) := hide (eqF_drop hp hq)
    have HCALL := hide hcall
    have HBB : Hid (∀ x y, Below wr.heap.size wr ((wr.alloc x).alloc y)) := hide (fun x y => ((Below.refl _ wr).alloc (ler _) _).alloc (by simp) _)
    have HB0 := hide (Below.refl wr.heap.size wr)
    have hki : (k : Int) < (n : Int) := by omega
    clear hp hq hcall HEL
    obtain ⟨B0, hB0⟩ : ∃ B0, f p q = B0 := ⟨_, rfl⟩
    rw [hB0] at HST HCALL
    cases B0 with
    | true =>
      go_wp2_with (go_at_call 6; refine (uh HCALL _ (by first | exact uh HB0 | exact uh HBB _ _)).mono ?_; rintro e w1 ⟨rfl, b1⟩)
      go_roundw
      case rel => exact ⟨k + 1, by omega, by go_num, hide ⟨by rw [← (uh HH).1, uh HST]; rfl, (uh HH).2.trans (((uh HBB _ _).trans (b1.mono (by simp; omega))).mono (uh HH).2.size)⟩⟩
      case measure => simp [intOf]; omega
    | false =>
      go_wp2_with (go_at_call 6; refine (uh HCALL _ (by first | exact uh HB0 | exact uh HBB _ _)).mono ?_; rintro e w1 ⟨rfl, b1⟩)
      go_ret
      exact ⟨ret_bool (by rw [← (uh HH).1, uh HST]; rfl), (uh HH).2.trans (((uh HBB _ _).trans (b1.mono (by simp; omega))).mono (uh HH).2.size)⟩
   ·have hki : ¬ (k : Int) < (n : Int) := by omega
    clear HEL
    go_wp2_with fail
    go_ret
    exact ⟨ret_bool (by rw [← (uh HH).1, List.drop_eq_nil_of_le (by rw [← uh HNL]; omega), List.drop_eq_nil_of_le (by rw [← uh HAB, ← uh HNL]; omega)]; rfl), (uh HH).2⟩
 ·subst hxs hys
  have hne : ((a.length : Int) == (b.length : Int)) = false := by rw [beq_eq_false_iff_ne]; omega
  have hf := eqF_len (f := f) hab
  rw [hf]
  clear hx hy hq hab hf
  go_enter Tryz.func23, Tryz.ntmps23
  go_wp2_with fail
  go_ret
  exact ⟨rfl, Below.refl _ _⟩
end Go.Proofs.YtojjfdobilkknaaGreatDoor

/- The document's Same, of commands: its words and Cmds.; The document's Same of commands, where the heads are the same. -/
import Derived.Test.YtojjfdobilkknaaGreatDoorM38
import Derived.Test.YtojjfdobilkknaaGreatDoorM39
import Derived.Test.YtojjfdobilkknaaGreatDoorM14
import Derived.Maps.RangeWalk
set_option maxRecDepth 20000
set_option maxHeartbeats 32000000
namespace Go.Proofs.YtojjfdobilkknaaGreatDoor
open Go.RowKit
def RSameOk (c : Cm) : Prop := ∀ (d : Cm) (w : World) (A B : Nat → Prop) (cs ds : List Value), CmAt w A c cs → CmAt w B d ds → (∀ k, A k → k < w.heap.size) → (∀ k, B k → k < w.heap.size) →
 Calls Tryz.prog 7 #[.agg cs.toArray, .agg ds.toArray] w fun e w' => e = .returned (.bool (sameC c d)) ∧ Below w.heap.size w w'
theorem rwords_any (a b : List Wd) (x y : Value) (w : World) (A B : Nat → Prop) (hn : a.length ≤ 9000) (hx : RowAt Kw w A x a) (hy : RowAt Kw w B y b) (hA : ∀ k, A k → k < w.heap.size) (hB : ∀ k, B k → k < w.heap.size) :
 Calls Tryz.prog 25 #[x, y] w fun e w' => e = .returned (.bool (eqF sameW a b)) ∧ Below w.heap.size w w' := by
 obtain ⟨ada, capa, hxs⟩ := hx.slice
 obtain ⟨adb, capb, hys⟩ := hy.slice
 by_cases hab : a.length = b.length
 ·have HEL : Hid (∀ W, Below w.heap.size w W → ∀ (i : Nat) (p q : Wd), a[i]? = some p → b[i]? = some q → ∃ (ga gb : Nat) (va1 : Option Addr) (vn1 vc1 : Nat) (va2 : Option Addr) (vn2 vc2 : Nat), (ada = some ⟨ga, 0, none⟩ ∧ ga < W.heap.size ∧ W.cell? ⟨ga, i, none⟩ = some (.slice va1 vn1 vc1)) ∧ (adb = some ⟨gb, 0, none⟩ ∧ gb < W.heap.size ∧ W.cell? ⟨gb, i, none⟩ = some (.slice va2 vn2 vc2)) ∧ ∀ W', Below W.heap.size W W' → Calls Tryz.prog 24 #[.slice va1 vn1 vc1, .slice va2 vn2 vc2] W' fun e w' => e = .returned (.bool (sameW p q)) ∧ Below W.heap.size W w') := hide (fun W hb i p q hp hq2 => by
   obtain ⟨ga, ca, e1, hga, hel1⟩ := (row_b hx hA hb).el (by have := (List.getElem?_eq_some_iff.1 hp).1; omega)
   obtain ⟨gb, cb, e2, hgb, hel2⟩ := (row_b hy hB hb).el (by have := (List.getElem?_eq_some_iff.1 hq2).1; omega)
   obtain ⟨cs, r1, hc1⟩ := hel1 i p hp
   obtain ⟨ds, r2, hc2⟩ := hel2 i q hq2
   have R1 := r1
   have R2 := r2
   rw [hxs] at e1
   rw [hys] at e2
   injection e1 with e1
   injection e2 with e2
   obtain ⟨v1, rfl, hv1⟩ := r1
   obtain ⟨va1, vc1, rfl, _⟩ := hv1.len
   obtain ⟨v2, rfl, hv2⟩ := r2
   obtain ⟨va2, vc2, rfl, _⟩ := hv2.len
   exact ⟨ga, gb, va1, _, vc1, va2, _, vc2, ⟨e1, lt_of_b hA hb _ hga, by simpa [Kw] using hc1 0 _ rfl⟩, ⟨e2, lt_of_b hB hb _ hgb, by simpa [Kw] using hc2 0 _ rfl⟩, fun W2 hb2 => (rsame_any p q _ _ W2 A B (hv1.kept (fun k hk => hb2.block k (lt_of_b hA hb k hk)) (fun _ hk => hk)) (hv2.kept (fun k hk => hb2.block k (lt_of_b hB hb k hk)) (fun _ hk => hk)) (lt_of_b (lt_of_b hA hb) hb2) (lt_of_b (lt_of_b hB hb) hb2)).mono (fun e w3 h3 => ⟨h3.1, hb2.trans (h3.2.mono hb2.size)⟩)⟩)
  subst hxs hys
  have HAB := hide hab
  rw [← hab]
  clear hx hy hA hB hab
  obtain ⟨n, hnl⟩ : ∃ n, n = a.length := ⟨_, rfl⟩
  rw [← hnl] at hn ⊢
  have HNL := hide hnl
  clear hnl
  go_enter Tryz.func25, Tryz.ntmps25
  go_wp2_with fail
  go_loopw [5] (fun i wr => ∃ k : Nat, k ≤ n ∧ i = .int .i64 k ∧ Hid (eqF sameW (a.drop k) (b.drop k) = eqF sameW a b ∧ Below w.heap.size w wr)) (fun i _ => n - (intOf i).toNat)
  case atStart => exact ⟨0, Nat.zero_le _, rfl, hide ⟨rfl, Below.refl _ _⟩⟩
  case round =>
   obtain ⟨k, hk, rfl, HH⟩ := hrel
   by_cases hkn : k < n
   ·obtain ⟨p, hp⟩ : ∃ p, a[k]? = some p := ⟨a[k]'(by rw [← uh HNL]; exact hkn), List.getElem?_eq_getElem _⟩
    obtain ⟨q, hq⟩ : ∃ q, b[k]? = some q := ⟨b[k]'(by rw [← uh HAB, ← uh HNL]; exact hkn), List.getElem?_eq_getElem _⟩
    obtain ⟨ga, gb, va1, vn1, vc1, va2, vn2, vc2, ⟨rfl, hga, a0⟩, ⟨rfl, hgb, b0⟩, hcall⟩ := uh HEL _ (uh HH).2 k p q hp hq
    have HST : Hid (eqF sameW (a.drop k) (b.drop k) = (sameW p q && eqF sameW (a.drop (k + 1)) (b.drop (k + 1)))) := hide (eqF_drop hp hq)
    obtain ⟨wA, hwx⟩ : ∃ z, z = wr := ⟨_, rfl⟩
    subst hwx
    have HCALL := hide hcall
    have HSS : Hid (∀ W, Below wA.heap.size wA W → W.cell? ⟨ga, k, none⟩ = some (.slice va1 vn1 vc1) ∧ W.cell? ⟨gb, k, none⟩ = some (.slice va2 vn2 vc2)) := hide (fun W hb => ⟨(hb.cell hga).trans a0, (hb.cell hgb).trans b0⟩)
    have HB0 := hide (Below.refl wA.heap.size wA)
    have HBD : Hid (∀ k, Below wA.heap.size wA (wA.drewN k)) := hide (fun k => bdr _ _)
    have hki : (k : Int) < (n : Int) := by omega
    obtain ⟨s0, s1⟩ := uh HSS _ (uh HB0)
    clear hp hq hcall HEL a0 b0 hga hgb
    obtain ⟨B0, hB0⟩ : ∃ B0, sameW p q = B0 := ⟨_, rfl⟩
    rw [hB0] at HST HCALL
    clear hB0
    cases B0
    all_goals
     go_wp2_with fail
     go_region_held3 (fun w' => w'.cell? ⟨ga, k, none⟩ = some (.slice va1 vn1 vc1) ∧ w'.cell? ⟨gb, k, none⟩ = some (.slice va2 vn2 vc2)) (go_keep) ((go_at_call 24; refine (uh HCALL _ (by first | exact uh HB0 | exact uh HBD _)).mono ?_; rintro e w2 ⟨rfl, b2⟩; obtain ⟨s0, s1⟩ := uh HSS _ b2; have B2 := hide b2; clear b2))
     go_wp2_with fail
    ·go_ret
     exact ⟨ret_bool (by rw [← (uh HH).1, uh HST]; rfl), (uh HH).2.trans ((uh B2).mono (uh HH).2.size)⟩
    ·go_roundw
     case rel => exact ⟨k + 1, by omega, by go_num, hide ⟨by rw [← (uh HH).1, uh HST]; rfl, (uh HH).2.trans ((uh B2).mono (uh HH).2.size)⟩⟩
     case measure => simp [intOf]; omega
   ·have hki : ¬ (k : Int) < (n : Int) := by omega
    clear HEL
    go_wp2_with fail
    go_ret
    exact ⟨ret_bool (by rw [← (uh HH).1, List.drop_eq_nil_of_le (by rw [← uh HNL]; omega), List.drop_eq_nil_of_le (by rw [← uh HAB, ← uh HNL]; omega)]; rfl), (uh HH).2⟩
 ·subst hxs hys
  have hne : ((a.length : Int) != (b.length : Int)) = true := by rw [bne_iff_ne]; omega
  have hf := eqF_len (f := sameW) hab
  rw [hf]
  clear hx hy hab hf
  go_enter Tryz.func25, Tryz.ntmps25
  go_wp2_with fail
  go_ret
  exact ⟨rfl, Below.refl _ _⟩
theorem rcmds_any (a b : List Cm) (x y : Value) (w : World) (A B : Nat → Prop) (hn : a.length ≤ 9000) (hok : ∀ c ∈ a, RSameOk c) (hx : RowAt Kc w A x a) (hy : RowAt Kc w B y b) (hA : ∀ k, A k → k < w.heap.size) (hB : ∀ k, B k → k < w.heap.size) :
 Calls Tryz.prog 26 #[x, y] w fun e w' => e = .returned (.bool (eqF sameC a b)) ∧ Below w.heap.size w w' := by
 obtain ⟨ada, capa, hxs⟩ := hx.slice
 obtain ⟨adb, capb, hys⟩ := hy.slice
 by_cases hab : a.length = b.length
 ·have HEL : Hid (∀ W, Below w.heap.size w W → ∀ (i : Nat) (p q : Cm), a[i]? = some p → b[i]? = some q → ∃ (ga gb : Nat) (x1 : CV) (x2 : CV), (ada = some ⟨ga, 0, none⟩ ∧ ga < W.heap.size ∧ CC W ga i x1) ∧ (adb = some ⟨gb, 0, none⟩ ∧ gb < W.heap.size ∧ CC W gb i x2) ∧ ∀ W', Below W.heap.size W W' → Calls Tryz.prog 7 #[.agg #[.int .i64 x1.k, .bool x1.no, .slice x1.al x1.nl x1.cl, .slice x1.aw x1.nw x1.cw, .slice x1.ar x1.nr x1.cr, .slice x1.ac x1.nc x1.cc, .string (BA x1.nm), .bool x1.ev, .slice x1.ai x1.ni x1.ci], .agg #[.int .i64 x2.k, .bool x2.no, .slice x2.al x2.nl x2.cl, .slice x2.aw x2.nw x2.cw, .slice x2.ar x2.nr x2.cr, .slice x2.ac x2.nc x2.cc, .string (BA x2.nm), .bool x2.ev, .slice x2.ai x2.ni x2.ci]] W' fun e w' => e = .returned (.bool (sameC p q)) ∧ Below W.heap.size W w') := hide (fun W hb i p q hp hq2 => by
   obtain ⟨ga, ca, e1, hga, hel1⟩ := (row_b hx hA hb).el (by have := (List.getElem?_eq_some_iff.1 hp).1; omega)
   obtain ⟨gb, cb, e2, hgb, hel2⟩ := (row_b hy hB hb).el (by have := (List.getElem?_eq_some_iff.1 hq2).1; omega)
   obtain ⟨cs, r1, hc1⟩ := hel1 i p hp
   obtain ⟨ds, r2, hc2⟩ := hel2 i q hq2
   have R1 := r1
   have R2 := r2
   rw [hxs] at e1
   rw [hys] at e2
   injection e1 with e1
   injection e2 with e2
   obtain ⟨x1, rfl⟩ := CmAt.cv r1
   obtain ⟨x2, rfl⟩ := CmAt.cv r2
   exact ⟨ga, gb, x1, x2, ⟨e1, lt_of_b hA hb _ hga, hc1 0 _ rfl, hc1 1 _ rfl, hc1 2 _ rfl, hc1 3 _ rfl, hc1 4 _ rfl, hc1 5 _ rfl, hc1 6 _ rfl, hc1 7 _ rfl, hc1 8 _ rfl⟩, ⟨e2, lt_of_b hB hb _ hgb, hc2 0 _ rfl, hc2 1 _ rfl, hc2 2 _ rfl, hc2 3 _ rfl, hc2 4 _ rfl, hc2 5 _ rfl, hc2 6 _ rfl, hc2 7 _ rfl, hc2 8 _ rfl⟩, fun W2 hb2 => (hok p (List.mem_of_getElem? hp) q W2 A B _ _ (CmAt.kept R1 (fun k hk => hb2.block k (lt_of_b hA hb k hk)) (fun _ hk => hk)) (CmAt.kept R2 (fun k hk => hb2.block k (lt_of_b hB hb k hk)) (fun _ hk => hk)) (lt_of_b (lt_of_b hA hb) hb2) (lt_of_b (lt_of_b hB hb) hb2)).mono (fun e w3 h3 => ⟨h3.1, hb2.trans (h3.2.mono hb2.size)⟩)⟩)
  subst hxs hys
  have HAB := hide hab
  rw [← hab]
  clear hx hy hA hB hab hok
  obtain ⟨n, hnl⟩ : ∃ n, n = a.length := ⟨_, rfl⟩
  rw [← hnl] at hn ⊢
  have HNL := hide hnl
  clear hnl
  go_enter Tryz.func26, Tryz.ntmps26
  go_wp2_with fail
  go_loopw [5] (fun i wr => ∃ k : Nat, k ≤ n ∧ i = .int .i64 k ∧ Hid (eqF sameC (a.drop k) (b.drop k) = eqF sameC a b ∧ Below w.heap.size w wr)) (fun i _ => n - (intOf i).toNat)
  case atStart => exact ⟨0, Nat.zero_le _, rfl, hide ⟨rfl, Below.refl _ _⟩⟩
  case round =>
   obtain ⟨k, hk, rfl, HH⟩ := hrel
   by_cases hkn : k < n
   ·obtain ⟨p, hp⟩ : ∃ p, a[k]? = some p := ⟨a[k]'(by rw [← uh HNL]; exact hkn), List.getElem?_eq_getElem _⟩
    obtain ⟨q, hq⟩ : ∃ q, b[k]? = some q := ⟨b[k]'(by rw [← uh HAB, ← uh HNL]; exact hkn), List.getElem?_eq_getElem _⟩
    obtain ⟨ga, gb, x1, x2, ⟨rfl, hga, a0, a1, a2, a3, a4, a5, a6, a7, a8⟩, ⟨rfl, hgb, b0, b1, b2, b3, b4, b5, b6, b7, b8⟩, hcall⟩ := uh HEL _ (uh HH).2 k p q hp hq
    have HST : Hid (eqF sameC (a.drop k) (b.drop k) = (sameC p q && eqF sameC (a.drop (k + 1)) (b.drop (k + 1)))) := hide (eqF_drop hp hq)
    obtain ⟨wA, hwx⟩ : ∃ z, z = wr := ⟨_, rfl⟩
    subst hwx
    have HCALL := hide hcall
    have HSS : Hid (∀ W, Below wA.heap.size wA W → CC W ga k x1 ∧ CC W gb k x2) := hide (fun W hb => ⟨.of hb hga ⟨a0, a1, a2, a3, a4, a5, a6, a7, a8⟩, .of hb hgb ⟨b0, b1, b2, b3, b4, b5, b6, b7, b8⟩⟩)
    have HB0 := hide (Below.refl wA.heap.size wA)
    have HBD : Hid (∀ k, Below wA.heap.size wA (wA.drewN k)) := hide (fun k => bdr _ _)
    have hki : (k : Int) < (n : Int) := by omega
    obtain ⟨⟨s0, s1, s2, s3, s4, s5, s6, s7, s8⟩, s9, s10, s11, s12, s13, s14, s15, s16, s17⟩ := uh HSS _ (uh HB0)
    clear hp hq hcall HEL a0 a1 a2 a3 a4 a5 a6 a7 a8 b0 b1 b2 b3 b4 b5 b6 b7 b8 hga hgb
    obtain ⟨B0, hB0⟩ : ∃ B0, sameC p q = B0 := ⟨_, rfl⟩
    rw [hB0] at HST HCALL
    clear hB0
    cases B0
    all_goals
     go_wp2_with fail
     go_region_held3 (fun w' => w'.cell? ⟨ga, k * 9, none⟩ = some (.int .i64 x1.k) ∧ w'.cell? ⟨ga, k * 9 + 1, none⟩ = some (.bool x1.no) ∧ w'.cell? ⟨ga, k * 9 + 2, none⟩ = some (.slice x1.al x1.nl x1.cl) ∧ w'.cell? ⟨ga, k * 9 + 3, none⟩ = some (.slice x1.aw x1.nw x1.cw) ∧ w'.cell? ⟨ga, k * 9 + 4, none⟩ = some (.slice x1.ar x1.nr x1.cr) ∧ w'.cell? ⟨ga, k * 9 + 5, none⟩ = some (.slice x1.ac x1.nc x1.cc) ∧ w'.cell? ⟨ga, k * 9 + 6, none⟩ = some (.string (BA x1.nm)) ∧ w'.cell? ⟨ga, k * 9 + 7, none⟩ = some (.bool x1.ev) ∧ w'.cell? ⟨ga, k * 9 + 8, none⟩ = some (.slice x1.ai x1.ni x1.ci) ∧ w'.cell? ⟨gb, k * 9, none⟩ = some (.int .i64 x2.k) ∧ w'.cell? ⟨gb, k * 9 + 1, none⟩ = some (.bool x2.no) ∧ w'.cell? ⟨gb, k * 9 + 2, none⟩ = some (.slice x2.al x2.nl x2.cl) ∧ w'.cell? ⟨gb, k * 9 + 3, none⟩ = some (.slice x2.aw x2.nw x2.cw) ∧ w'.cell? ⟨gb, k * 9 + 4, none⟩ = some (.slice x2.ar x2.nr x2.cr) ∧ w'.cell? ⟨gb, k * 9 + 5, none⟩ = some (.slice x2.ac x2.nc x2.cc) ∧ w'.cell? ⟨gb, k * 9 + 6, none⟩ = some (.string (BA x2.nm)) ∧ w'.cell? ⟨gb, k * 9 + 7, none⟩ = some (.bool x2.ev) ∧ w'.cell? ⟨gb, k * 9 + 8, none⟩ = some (.slice x2.ai x2.ni x2.ci)) (go_keep) ((go_at_call 7; refine (uh HCALL _ (by first | exact uh HB0 | exact uh HBD _)).mono ?_; rintro e w2 ⟨rfl, b2⟩; obtain ⟨⟨s0, s1, s2, s3, s4, s5, s6, s7, s8⟩, s9, s10, s11, s12, s13, s14, s15, s16, s17⟩ := uh HSS _ b2; have B2 := hide b2; clear b2))
     go_wp2_with fail
    ·go_ret
     exact ⟨ret_bool (by rw [← (uh HH).1, uh HST]; rfl), (uh HH).2.trans ((uh B2).mono (uh HH).2.size)⟩
    ·go_roundw
     case rel => exact ⟨k + 1, by omega, by go_num, hide ⟨by rw [← (uh HH).1, uh HST]; rfl, (uh HH).2.trans ((uh B2).mono (uh HH).2.size)⟩⟩
     case measure => simp [intOf]; omega
   ·have hki : ¬ (k : Int) < (n : Int) := by omega
    clear HEL
    go_wp2_with fail
    go_ret
    exact ⟨ret_bool (by rw [← (uh HH).1, List.drop_eq_nil_of_le (by rw [← uh HNL]; omega), List.drop_eq_nil_of_le (by rw [← uh HAB, ← uh HNL]; omega)]; rfl), (uh HH).2⟩
 ·subst hxs hys
  have hne : ((a.length : Int) != (b.length : Int)) = true := by rw [bne_iff_ne]; omega
  have hf := eqF_len (f := sameC) hab
  rw [hf]
  clear hx hy hab hf hok
  go_enter Tryz.func26, Tryz.ntmps26
  go_wp2_with fail
  go_ret
  exact ⟨rfl, Below.refl _ _⟩
theorem rsame_loops (w : World) (k : Int) (n e : Bool) (m : List UInt8) (la wa ra ca ia laq waq raq caq iaq : Option Addr) (ln lc wn wc rn rc cn cc inn ic lcq wnq wcq rcq cnq ccq icq : Nat) (lets lets' : List (List UInt8 × Wd)) (words words' : List Wd) (redirs redirs' : List (Int × Int × Wd)) (items items' : List (List Wd × List Cm)) (cmds cmds' : List Cm) (hl9 : ln ≤ 9000 ∧ rn ≤ 9000 ∧ inn ≤ 9000)
 (hln : (ln = lets.length ∧ ln = lets'.length) ∧ (rn = redirs.length ∧ rn = redirs'.length) ∧ inn = items.length ∧ inn = items'.length)
 (hell : ∀ W, Below w.heap.size w W → ∀ (q : Nat) (p p' : (List UInt8 × Wd)), lets[q]? = some p → lets'[q]? = some p' → ∃ (ga gb : Nat) (va1 : Option Addr) (vn1 vc1 : Nat) (va2 : Option Addr) (vn2 vc2 : Nat), (la = some ⟨ga, 0, none⟩ ∧ ga < W.heap.size ∧ W.cell? ⟨ga, q * 2, none⟩ = some (.string (BA p.1)) ∧ W.cell? ⟨ga, q * 2 + 1, none⟩ = some (.slice va1 vn1 vc1)) ∧ (laq = some ⟨gb, 0, none⟩ ∧ gb < W.heap.size ∧ W.cell? ⟨gb, q * 2, none⟩ = some (.string (BA p'.1)) ∧ W.cell? ⟨gb, q * 2 + 1, none⟩ = some (.slice va2 vn2 vc2)) ∧ ∀ W', Below W.heap.size W W' → Calls Tryz.prog 24 #[.slice va1 vn1 vc1, .slice va2 vn2 vc2] W' (fun e w' => e = .returned (.bool (sameW p.2 p'.2)) ∧ Below W.heap.size W w'))
 (helr : ∀ W, Below w.heap.size w W → ∀ (q : Nat) (p p' : (Int × Int × Wd)), redirs[q]? = some p → redirs'[q]? = some p' → ∃ (ga gb : Nat) (va1 : Option Addr) (vn1 vc1 : Nat) (va2 : Option Addr) (vn2 vc2 : Nat), (ra = some ⟨ga, 0, none⟩ ∧ ga < W.heap.size ∧ W.cell? ⟨ga, q * 3, none⟩ = some (.int .i64 p.1) ∧ W.cell? ⟨ga, q * 3 + 1, none⟩ = some (.int .i64 p.2.1) ∧ W.cell? ⟨ga, q * 3 + 2, none⟩ = some (.slice va1 vn1 vc1)) ∧ (raq = some ⟨gb, 0, none⟩ ∧ gb < W.heap.size ∧ W.cell? ⟨gb, q * 3, none⟩ = some (.int .i64 p'.1) ∧ W.cell? ⟨gb, q * 3 + 1, none⟩ = some (.int .i64 p'.2.1) ∧ W.cell? ⟨gb, q * 3 + 2, none⟩ = some (.slice va2 vn2 vc2)) ∧ ∀ W', Below W.heap.size W W' → Calls Tryz.prog 24 #[.slice va1 vn1 vc1, .slice va2 vn2 vc2] W' (fun e w' => e = .returned (.bool (sameW p.2.2 p'.2.2)) ∧ Below W.heap.size W w'))
 (heli : ∀ W, Below w.heap.size w W → ∀ (q : Nat) (p p' : (List Wd × List Cm)), items[q]? = some p → items'[q]? = some p' → ∃ (ga gb : Nat) (va1 : Option Addr) (vn1 vc1 : Nat) (ua1 : Option Addr) (un1 uc1 : Nat) (va2 : Option Addr) (vn2 vc2 : Nat) (ua2 : Option Addr) (un2 uc2 : Nat), (ia = some ⟨ga, 0, none⟩ ∧ ga < W.heap.size ∧ W.cell? ⟨ga, q * 2, none⟩ = some (.slice va1 vn1 vc1) ∧ W.cell? ⟨ga, q * 2 + 1, none⟩ = some (.slice ua1 un1 uc1)) ∧ (iaq = some ⟨gb, 0, none⟩ ∧ gb < W.heap.size ∧ W.cell? ⟨gb, q * 2, none⟩ = some (.slice va2 vn2 vc2) ∧ W.cell? ⟨gb, q * 2 + 1, none⟩ = some (.slice ua2 un2 uc2)) ∧ ∀ W', Below W.heap.size W W' → Calls Tryz.prog 25 #[.slice va1 vn1 vc1, .slice va2 vn2 vc2] W' (fun e w' => e = .returned (.bool (eqF sameW p.1 p'.1)) ∧ Below W.heap.size W w') ∧ Calls Tryz.prog 26 #[.slice ua1 un1 uc1, .slice ua2 un2 uc2] W' (fun e w' => e = .returned (.bool (eqF sameC p.2 p'.2)) ∧ Below W.heap.size W w'))
 (hcw : ∀ W, Below w.heap.size w W → Calls Tryz.prog 25 #[.slice wa wn wc, .slice waq wnq wcq] W fun e w' => e = .returned (.bool (eqF sameW words words')) ∧ Below W.heap.size W w')
 (hcc : ∀ W, Below w.heap.size w W → Calls Tryz.prog 26 #[.slice ca cn cc, .slice caq cnq ccq] W fun e w' => e = .returned (.bool (eqF sameC cmds cmds')) ∧ Below W.heap.size W w') :
 Calls Tryz.prog 7 #[.agg #[.int .i64 k, .bool n, .slice la ln lc, .slice wa wn wc, .slice ra rn rc, .slice ca cn cc, .string (BA m), .bool e, .slice ia inn ic], .agg #[.int .i64 k, .bool n, .slice laq ln lcq, .slice waq wnq wcq, .slice raq rn rcq, .slice caq cnq ccq, .string (BA m), .bool e, .slice iaq inn icq]] w fun e2 w' => e2 = .returned (.bool (eqF sameLt lets lets' && eqF sameW words words' && eqF sameRd redirs redirs' && eqF sameIt items items' && eqF sameC cmds cmds')) ∧ Below w.heap.size w w' := by
 obtain ⟨R, hR⟩ : ∃ R, R = (eqF sameLt lets lets' && eqF sameW words words' && eqF sameRd redirs redirs' && eqF sameIt items items' && eqF sameC cmds cmds') := ⟨_, rfl⟩
 rw [← hR]
 have HR := hide hR
 have HLN := hide hln
 have HELl := hide hell
 have HELr := hide helr
 have HELi := hide heli
 have HCW := hide hcw
 have HCC := hide hcc
 obtain ⟨hl1, hl2, hl3⟩ := hl9
 obtain ⟨W0, hW0⟩ : ∃ W0, W0 = (w.alloc (.cells #[.int .i64 k, .bool n, .slice la ln lc, .slice wa wn wc, .slice ra rn rc, .slice ca cn cc, .string (BA m), .bool e, .slice ia inn ic] 33)).alloc (.cells #[.int .i64 k, .bool n, .slice laq ln lcq, .slice waq wnq wcq, .slice raq rn rcq, .slice caq cnq ccq, .string (BA m), .bool e, .slice iaq inn icq] 33) := ⟨_, rfl⟩
 obtain ⟨na, hna⟩ : ∃ na, na = w.heap.size := ⟨_, rfl⟩
 obtain ⟨nb, hnb⟩ : ∃ nb, nb = w.heap.size + 1 := ⟨_, rfl⟩
 have HZW : Hid (Below w.heap.size w W0) := hide (by rw [hW0]; exact ((Below.refl _ w).alloc (ler _) _).alloc (by simp) _)
 have hka : Blk W0 na 33 #[.int .i64 k, .bool n, .slice la ln lc, .slice wa wn wc, .slice ra rn rc, .slice ca cn cc, .string (BA m), .bool e, .slice ia inn ic] := by rw [hW0, hna]; exact (Blk.new _ _ _).alloc _
 have hkb : Blk W0 nb 33 #[.int .i64 k, .bool n, .slice laq ln lcq, .slice waq wnq wcq, .slice raq rn rcq, .slice caq cnq ccq, .string (BA m), .bool e, .slice iaq inn icq] := by
  have := Blk.new (w.alloc (.cells #[.int .i64 k, .bool n, .slice la ln lc, .slice wa wn wc, .slice ra rn rc, .slice ca cn cc, .string (BA m), .bool e, .slice ia inn ic] 33)) 33 #[.int .i64 k, .bool n, .slice laq ln lcq, .slice waq wnq wcq, .slice raq rn rcq, .slice caq cnq ccq, .string (BA m), .bool e, .slice iaq inn icq]
  rw [hW0, hnb]
  simpa using this
 have HBX : Hid (∀ W, Below W0.heap.size W0 W → W.cell? ⟨na, 0, none⟩ = some (.int .i64 k) ∧ W.cell? ⟨nb, 0, none⟩ = some (.int .i64 k) ∧ W.cell? ⟨na, 1, none⟩ = some (.bool n) ∧ W.cell? ⟨nb, 1, none⟩ = some (.bool n) ∧ W.cell? ⟨na, 2, none⟩ = some (.slice la ln lc) ∧ W.cell? ⟨nb, 2, none⟩ = some (.slice laq ln lcq) ∧ W.cell? ⟨na, 3, none⟩ = some (.slice wa wn wc) ∧ W.cell? ⟨nb, 3, none⟩ = some (.slice waq wnq wcq) ∧ W.cell? ⟨na, 4, none⟩ = some (.slice ra rn rc) ∧ W.cell? ⟨nb, 4, none⟩ = some (.slice raq rn rcq) ∧ W.cell? ⟨na, 5, none⟩ = some (.slice ca cn cc) ∧ W.cell? ⟨nb, 5, none⟩ = some (.slice caq cnq ccq) ∧ W.cell? ⟨na, 6, none⟩ = some (.string (BA m)) ∧ W.cell? ⟨nb, 6, none⟩ = some (.string (BA m)) ∧ W.cell? ⟨na, 7, none⟩ = some (.bool e) ∧ W.cell? ⟨nb, 7, none⟩ = some (.bool e) ∧ W.cell? ⟨na, 8, none⟩ = some (.slice ia inn ic) ∧ W.cell? ⟨nb, 8, none⟩ = some (.slice iaq inn icq)) := hide (fun W hb => ⟨(hka.below hb hka.lt).cell 0 rfl, (hkb.below hb hkb.lt).cell 0 rfl, (hka.below hb hka.lt).cell 1 rfl, (hkb.below hb hkb.lt).cell 1 rfl, (hka.below hb hka.lt).cell 2 rfl, (hkb.below hb hkb.lt).cell 2 rfl, (hka.below hb hka.lt).cell 3 rfl, (hkb.below hb hkb.lt).cell 3 rfl, (hka.below hb hka.lt).cell 4 rfl, (hkb.below hb hkb.lt).cell 4 rfl, (hka.below hb hka.lt).cell 5 rfl, (hkb.below hb hkb.lt).cell 5 rfl, (hka.below hb hka.lt).cell 6 rfl, (hkb.below hb hkb.lt).cell 6 rfl, (hka.below hb hka.lt).cell 7 rfl, (hkb.below hb hkb.lt).cell 7 rfl, (hka.below hb hka.lt).cell 8 rfl, (hkb.below hb hkb.lt).cell 8 rfl⟩)
 have HNL : Hid (∀ W, Below W0.heap.size W0 W → na < W.heap.size ∧ nb < W.heap.size) := hide (fun W hb => ⟨lle hka.lt hb.size, lle hkb.lt hb.size⟩)
 have HR0 := hide (Below.refl W0.heap.size W0)
 have a0 : W0.cell? ⟨na, 0, none⟩ = some (.int .i64 k) := hka.cell 0 rfl
 have b0 : W0.cell? ⟨nb, 0, none⟩ = some (.int .i64 k) := hkb.cell 0 rfl
 have a1 : W0.cell? ⟨na, 1, none⟩ = some (.bool n) := hka.cell 1 rfl
 have b1 : W0.cell? ⟨nb, 1, none⟩ = some (.bool n) := hkb.cell 1 rfl
 have a2 : W0.cell? ⟨na, 2, none⟩ = some (.slice la ln lc) := hka.cell 2 rfl
 have b2 : W0.cell? ⟨nb, 2, none⟩ = some (.slice laq ln lcq) := hkb.cell 2 rfl
 have a3 : W0.cell? ⟨na, 3, none⟩ = some (.slice wa wn wc) := hka.cell 3 rfl
 have b3 : W0.cell? ⟨nb, 3, none⟩ = some (.slice waq wnq wcq) := hkb.cell 3 rfl
 have a4 : W0.cell? ⟨na, 4, none⟩ = some (.slice ra rn rc) := hka.cell 4 rfl
 have b4 : W0.cell? ⟨nb, 4, none⟩ = some (.slice raq rn rcq) := hkb.cell 4 rfl
 have a5 : W0.cell? ⟨na, 5, none⟩ = some (.slice ca cn cc) := hka.cell 5 rfl
 have b5 : W0.cell? ⟨nb, 5, none⟩ = some (.slice caq cnq ccq) := hkb.cell 5 rfl
 have a6 : W0.cell? ⟨na, 6, none⟩ = some (.string (BA m)) := hka.cell 6 rfl
 have b6 : W0.cell? ⟨nb, 6, none⟩ = some (.string (BA m)) := hkb.cell 6 rfl
 have a7 : W0.cell? ⟨na, 7, none⟩ = some (.bool e) := hka.cell 7 rfl
 have b7 : W0.cell? ⟨nb, 7, none⟩ = some (.bool e) := hkb.cell 7 rfl
 have a8 : W0.cell? ⟨na, 8, none⟩ = some (.slice ia inn ic) := hka.cell 8 rfl
 have b8 : W0.cell? ⟨nb, 8, none⟩ = some (.slice iaq inn icq) := hkb.cell 8 rfl
 have HW0 := hide hW0
 have HNA := hide hna
 have HNB := hide hnb
 clear hW0 hna hnb hka hkb hR hln hell helr heli hcw hcc
 go_enter Tryz.func7, Tryz.ntmps7
 go_upto_region 1 with fail
 rw [← uh HW0, ← uh HNB, ← uh HNA]
 clear HW0 HNB HNA
 go_wp2_with fail
 clear a0 b0 a1 b1 a2 b2 a3 b3 a4 b4 a5 b5 a6 b6 a7 b7 a8 b8
 go_loopw [5] (fun i wr => ∃ q : Nat, q ≤ ln ∧ i = .int .i64 (q : Int) ∧ Hid (eqF sameLt (lets.drop q) (lets'.drop q) = eqF sameLt lets lets' ∧ Below W0.heap.size W0 wr)) (fun i _ => ln - (intOf i).toNat)
 case atStart => exact ⟨0, Nat.zero_le _, rfl, hide ⟨rfl, uh HR0⟩⟩
 case round =>
  obtain ⟨q, hq, rfl, HHl⟩ := hrel
  obtain ⟨wA, hwx⟩ : ∃ z, z = wr := ⟨_, rfl⟩
  subst hwx
  have z1 : wA.cell? ⟨na, 2, none⟩ = some (.slice la ln lc) := (uh HBX _ (uh HHl).2).2.2.2.2.1
  have z2 : wA.cell? ⟨nb, 2, none⟩ = some (.slice laq ln lcq) := (uh HBX _ (uh HHl).2).2.2.2.2.2.1
  by_cases hqn : q < ln
  ·obtain ⟨p, hp⟩ : ∃ p, lets[q]? = some p := ⟨lets[q]'(by rw [← (uh HLN).1.1]; exact hqn), List.getElem?_eq_getElem _⟩
   obtain ⟨p', hp'⟩ : ∃ p', lets'[q]? = some p' := ⟨lets'[q]'(by rw [← (uh HLN).1.2]; exact hqn), List.getElem?_eq_getElem _⟩
   obtain ⟨ga, gb, va1, vn1, vc1, va2, vn2, vc2, ⟨e1, hga, A1⟩, ⟨e2, hgb, A2⟩, hcall⟩ := uh HELl _ ((uh HZW).trans ((uh HHl).2.mono (uh HZW).size)) q p p' hp hp'
   have HST : Hid (eqF sameLt (lets.drop q) (lets'.drop q) = (sameLt p p' && eqF sameLt (lets.drop (q + 1)) (lets'.drop (q + 1)))) := hide (eqF_drop hp hp')
   have HCALL := hide hcall
   rw [e1] at z1
   rw [e2] at z2
   have hln := (uh HBX _ (uh HHl).2)
   have HSS : Hid (∀ W, Below wA.heap.size wA W → (W.cell? ⟨na, 2, none⟩ = some (.slice (some ⟨ga, 0, none⟩) ln lc) ∧ W.cell? ⟨nb, 2, none⟩ = some (.slice (some ⟨gb, 0, none⟩) ln lcq)) ∧ (W.cell? ⟨ga, q * 2, none⟩ = some (.string (BA p.1)) ∧ W.cell? ⟨ga, q * 2 + 1, none⟩ = some (.slice va1 vn1 vc1)) ∧ W.cell? ⟨gb, q * 2, none⟩ = some (.string (BA p'.1)) ∧ W.cell? ⟨gb, q * 2 + 1, none⟩ = some (.slice va2 vn2 vc2)) := hide (fun W hb => ⟨⟨(hb.cell (uh HNL _ (uh HHl).2).1).trans z1, (hb.cell (uh HNL _ (uh HHl).2).2).trans z2⟩, ⟨(hb.cell hga).trans A1.1, (hb.cell hga).trans A1.2⟩, (hb.cell hgb).trans A2.1, (hb.cell hgb).trans A2.2⟩)
   have HB0 := hide (Below.refl wA.heap.size wA)
   have HBD : Hid (∀ k, Below wA.heap.size wA (wA.drewN k)) := hide (fun k => bdr _ _)
   have hqi : (q : Int) < (ln : Int) := by omega
   obtain ⟨⟨s1, s2⟩, ⟨s3, s4⟩, s5, s6⟩ := uh HSS _ (uh HB0)
   clear hp hp' hcall A1 A2 hga hgb e1 e2 hln z1 z2
   by_cases h1 : p.1 = p'.1
   ·have ht1 : ((BA p.1).toList == (BA p'.1).toList) = true := by rw [BA_toList, BA_toList]; simp [h1]
    have HT1 := hide h1
    clear h1
    cases hB : sameW p.2 p'.2 with
    | true =>
      rw [hB] at HCALL
      have HBB := hide hB
      clear hB
      go_wp2_with fail
      go_region_held3 (fun w' => (w'.cell? ⟨na, 2, none⟩ = some (.slice (some ⟨ga, 0, none⟩) ln lc) ∧ w'.cell? ⟨nb, 2, none⟩ = some (.slice (some ⟨gb, 0, none⟩) ln lcq)) ∧ (w'.cell? ⟨ga, q * 2, none⟩ = some (.string (BA p.1)) ∧ w'.cell? ⟨ga, q * 2 + 1, none⟩ = some (.slice va1 vn1 vc1)) ∧ w'.cell? ⟨gb, q * 2, none⟩ = some (.string (BA p'.1)) ∧ w'.cell? ⟨gb, q * 2 + 1, none⟩ = some (.slice va2 vn2 vc2)) (go_keep) ((go_at_call 24; refine (uh HCALL _ (by first | exact uh HB0 | exact uh HBD _)).mono ?_; rintro e w2 ⟨rfl, b2⟩; obtain ⟨⟨s1, s2⟩, ⟨s3, s4⟩, s5, s6⟩ := uh HSS _ b2; have B2 := hide b2; clear b2))
      go_wp2_with fail
      go_roundw
      case rel => exact ⟨q + 1, by omega, by go_num, hide ⟨by rw [← (uh HHl).1, uh HST]; simp [sameLt, uh HT1, uh HBB], (uh HHl).2.trans ((uh B2).mono (uh HHl).2.size)⟩⟩
      case measure => simp [intOf]; omega
    | false =>
      rw [hB] at HCALL
      have HBB := hide hB
      clear hB
      go_wp2_with fail
      go_region_held3 (fun w' => (w'.cell? ⟨na, 2, none⟩ = some (.slice (some ⟨ga, 0, none⟩) ln lc) ∧ w'.cell? ⟨nb, 2, none⟩ = some (.slice (some ⟨gb, 0, none⟩) ln lcq)) ∧ (w'.cell? ⟨ga, q * 2, none⟩ = some (.string (BA p.1)) ∧ w'.cell? ⟨ga, q * 2 + 1, none⟩ = some (.slice va1 vn1 vc1)) ∧ w'.cell? ⟨gb, q * 2, none⟩ = some (.string (BA p'.1)) ∧ w'.cell? ⟨gb, q * 2 + 1, none⟩ = some (.slice va2 vn2 vc2)) (go_keep) ((go_at_call 24; refine (uh HCALL _ (by first | exact uh HB0 | exact uh HBD _)).mono ?_; rintro e w2 ⟨rfl, b2⟩; obtain ⟨⟨s1, s2⟩, ⟨s3, s4⟩, s5, s6⟩ := uh HSS _ b2; have B2 := hide b2; clear b2))
      have hz : eqF sameLt lets lets' = false := by rw [← (uh HHl).1, uh HST]; simp [sameLt, uh HBB]
      have HZ := hide hz
      clear hz
      go_wp2_with fail
      go_ret
      exact ⟨ret_bool (by rw [uh HR, uh HZ]; simp), (uh HZW).trans (((uh HHl).2.trans ((uh B2).mono (uh HHl).2.size)).mono (uh HZW).size)⟩
   ·have ht1 : ((BA p.1).toList == (BA p'.1).toList) = false := by rw [BA_toList, BA_toList]; simp [h1]
    have HF := hide h1
    clear h1 HCALL
    go_wp2_with fail
    go_quiet (fail)
    have hz : eqF sameLt lets lets' = false := by rw [← (uh HHl).1, uh HST]; simp [sameLt, uh HF]
    have HZ := hide hz
    clear hz
    go_wp2_with fail
    go_ret
    exact ⟨ret_bool (by rw [uh HR, uh HZ]; simp), (uh HZW).trans (Below.mono (by first | exact (uh HHl).2 | exact (uh HHl).2.trans ((uh HBD _).mono (uh HHl).2.size)) (uh HZW).size)⟩
  ·have hqi : ¬ (q : Int) < (ln : Int) := by omega
   have HEl : Hid (eqF sameLt lets lets' = true) := hide (by rw [← (uh HHl).1, List.drop_eq_nil_of_le (by rw [← (uh HLN).1.1]; omega), List.drop_eq_nil_of_le (by rw [← (uh HLN).1.2]; omega)]; rfl)
   clear z2 HELl
   go_wp2_with fail
   clear z1
   go_loopw [6] (fun i wr => ∃ q : Nat, q ≤ rn ∧ i = .int .i64 (q : Int) ∧ Hid (eqF sameRd (redirs.drop q) (redirs'.drop q) = eqF sameRd redirs redirs' ∧ Below W0.heap.size W0 wr)) (fun i _ => rn - (intOf i).toNat)
   case atStart => exact ⟨0, Nat.zero_le _, rfl, hide ⟨rfl, (uh HHl).2⟩⟩
   case round =>
    obtain ⟨q, hq, rfl, HHr⟩ := hrel
    obtain ⟨wB, hwx⟩ : ∃ z, z = wr := ⟨_, rfl⟩
    subst hwx
    have z1 : wB.cell? ⟨na, 4, none⟩ = some (.slice ra rn rc) := (uh HBX _ (uh HHr).2).2.2.2.2.2.2.2.2.1
    have z2 : wB.cell? ⟨nb, 4, none⟩ = some (.slice raq rn rcq) := (uh HBX _ (uh HHr).2).2.2.2.2.2.2.2.2.2.1
    by_cases hqn : q < rn
    ·obtain ⟨p, hp⟩ : ∃ p, redirs[q]? = some p := ⟨redirs[q]'(by rw [← (uh HLN).2.1.1]; exact hqn), List.getElem?_eq_getElem _⟩
     obtain ⟨p', hp'⟩ : ∃ p', redirs'[q]? = some p' := ⟨redirs'[q]'(by rw [← (uh HLN).2.1.2]; exact hqn), List.getElem?_eq_getElem _⟩
     obtain ⟨ga, gb, va1, vn1, vc1, va2, vn2, vc2, ⟨e1, hga, A1⟩, ⟨e2, hgb, A2⟩, hcall⟩ := uh HELr _ ((uh HZW).trans ((uh HHr).2.mono (uh HZW).size)) q p p' hp hp'
     have HST : Hid (eqF sameRd (redirs.drop q) (redirs'.drop q) = (sameRd p p' && eqF sameRd (redirs.drop (q + 1)) (redirs'.drop (q + 1)))) := hide (eqF_drop hp hp')
     have HCALL := hide hcall
     rw [e1] at z1
     rw [e2] at z2
     have hln := (uh HBX _ (uh HHr).2)
     have HSS : Hid (∀ W, Below wB.heap.size wB W → (W.cell? ⟨na, 4, none⟩ = some (.slice (some ⟨ga, 0, none⟩) rn rc) ∧ W.cell? ⟨nb, 4, none⟩ = some (.slice (some ⟨gb, 0, none⟩) rn rcq)) ∧ (W.cell? ⟨ga, q * 3, none⟩ = some (.int .i64 p.1) ∧ W.cell? ⟨ga, q * 3 + 1, none⟩ = some (.int .i64 p.2.1) ∧ W.cell? ⟨ga, q * 3 + 2, none⟩ = some (.slice va1 vn1 vc1)) ∧ W.cell? ⟨gb, q * 3, none⟩ = some (.int .i64 p'.1) ∧ W.cell? ⟨gb, q * 3 + 1, none⟩ = some (.int .i64 p'.2.1) ∧ W.cell? ⟨gb, q * 3 + 2, none⟩ = some (.slice va2 vn2 vc2)) := hide (fun W hb => ⟨⟨(hb.cell (uh HNL _ (uh HHr).2).1).trans z1, (hb.cell (uh HNL _ (uh HHr).2).2).trans z2⟩, ⟨(hb.cell hga).trans A1.1, (hb.cell hga).trans A1.2.1, (hb.cell hga).trans A1.2.2⟩, (hb.cell hgb).trans A2.1, (hb.cell hgb).trans A2.2.1, (hb.cell hgb).trans A2.2.2⟩)
     have HB0 := hide (Below.refl wB.heap.size wB)
     have HBD : Hid (∀ k, Below wB.heap.size wB (wB.drewN k)) := hide (fun k => bdr _ _)
     have hqi : (q : Int) < (rn : Int) := by omega
     obtain ⟨⟨s1, s2⟩, ⟨s3, s4, s5⟩, s6, s7, s8⟩ := uh HSS _ (uh HB0)
     clear hp hp' hcall A1 A2 hga hgb e1 e2 hln z1 z2
     by_cases h1 : p.1 = p'.1
     ·have ht1 : (p.1 != p'.1) = false := by simp [h1]
      have HT1 := hide h1
      clear h1
      by_cases h2 : p.2.1 = p'.2.1
      ·have ht2 : (p.2.1 != p'.2.1) = false := by simp [h2]
       have HT2 := hide h2
       clear h2
       cases hB : sameW p.2.2 p'.2.2 with
       | true =>
         rw [hB] at HCALL
         have HBB := hide hB
         clear hB
         go_wp2_with fail
         go_region_held3 (fun w' => (w'.cell? ⟨na, 4, none⟩ = some (.slice (some ⟨ga, 0, none⟩) rn rc) ∧ w'.cell? ⟨nb, 4, none⟩ = some (.slice (some ⟨gb, 0, none⟩) rn rcq)) ∧ (w'.cell? ⟨ga, q * 3, none⟩ = some (.int .i64 p.1) ∧ w'.cell? ⟨ga, q * 3 + 1, none⟩ = some (.int .i64 p.2.1) ∧ w'.cell? ⟨ga, q * 3 + 2, none⟩ = some (.slice va1 vn1 vc1)) ∧ w'.cell? ⟨gb, q * 3, none⟩ = some (.int .i64 p'.1) ∧ w'.cell? ⟨gb, q * 3 + 1, none⟩ = some (.int .i64 p'.2.1) ∧ w'.cell? ⟨gb, q * 3 + 2, none⟩ = some (.slice va2 vn2 vc2)) (go_keep) ((go_at_call 24; refine (uh HCALL _ (by first | exact uh HB0 | exact uh HBD _)).mono ?_; rintro e w2 ⟨rfl, b2⟩; obtain ⟨⟨s1, s2⟩, ⟨s3, s4, s5⟩, s6, s7, s8⟩ := uh HSS _ b2; have B2 := hide b2; clear b2))
         go_wp2_with fail
         go_roundw
         case rel => exact ⟨q + 1, by omega, by go_num, hide ⟨by rw [← (uh HHr).1, uh HST]; simp [sameRd, uh HT1, uh HT2, uh HBB], (uh HHr).2.trans ((uh B2).mono (uh HHr).2.size)⟩⟩
         case measure => simp [intOf]; omega
       | false =>
         rw [hB] at HCALL
         have HBB := hide hB
         clear hB
         go_wp2_with fail
         go_region_held3 (fun w' => (w'.cell? ⟨na, 4, none⟩ = some (.slice (some ⟨ga, 0, none⟩) rn rc) ∧ w'.cell? ⟨nb, 4, none⟩ = some (.slice (some ⟨gb, 0, none⟩) rn rcq)) ∧ (w'.cell? ⟨ga, q * 3, none⟩ = some (.int .i64 p.1) ∧ w'.cell? ⟨ga, q * 3 + 1, none⟩ = some (.int .i64 p.2.1) ∧ w'.cell? ⟨ga, q * 3 + 2, none⟩ = some (.slice va1 vn1 vc1)) ∧ w'.cell? ⟨gb, q * 3, none⟩ = some (.int .i64 p'.1) ∧ w'.cell? ⟨gb, q * 3 + 1, none⟩ = some (.int .i64 p'.2.1) ∧ w'.cell? ⟨gb, q * 3 + 2, none⟩ = some (.slice va2 vn2 vc2)) (go_keep) ((go_at_call 24; refine (uh HCALL _ (by first | exact uh HB0 | exact uh HBD _)).mono ?_; rintro e w2 ⟨rfl, b2⟩; obtain ⟨⟨s1, s2⟩, ⟨s3, s4, s5⟩, s6, s7, s8⟩ := uh HSS _ b2; have B2 := hide b2; clear b2))
         have hz : eqF sameRd redirs redirs' = false := by rw [← (uh HHr).1, uh HST]; simp [sameRd, uh HBB]
         have HZ := hide hz
         clear hz
         go_wp2_with fail
         go_ret
         exact ⟨ret_bool (by rw [uh HR, uh HZ]; simp), (uh HZW).trans (((uh HHr).2.trans ((uh B2).mono (uh HHr).2.size)).mono (uh HZW).size)⟩
      ·have ht2 : (p.2.1 != p'.2.1) = true := by simp [h2]
       have HF := hide h2
       clear h2 HCALL
       go_wp2_with fail
       go_quiet (fail)
       have hz : eqF sameRd redirs redirs' = false := by rw [← (uh HHr).1, uh HST]; simp [sameRd, uh HF]
       have HZ := hide hz
       clear hz
       go_wp2_with fail
       go_ret
       exact ⟨ret_bool (by rw [uh HR, uh HZ]; simp), (uh HZW).trans (Below.mono (by first | exact (uh HHr).2 | exact (uh HHr).2.trans ((uh HBD _).mono (uh HHr).2.size)) (uh HZW).size)⟩
     ·have ht1 : (p.1 != p'.1) = true := by simp [h1]
      have HF := hide h1
      clear h1 HCALL
      go_wp2_with fail
      go_quiet (fail)
      have hz : eqF sameRd redirs redirs' = false := by rw [← (uh HHr).1, uh HST]; simp [sameRd, uh HF]
      have HZ := hide hz
      clear hz
      go_wp2_with fail
      go_ret
      exact ⟨ret_bool (by rw [uh HR, uh HZ]; simp), (uh HZW).trans (Below.mono (by first | exact (uh HHr).2 | exact (uh HHr).2.trans ((uh HBD _).mono (uh HHr).2.size)) (uh HZW).size)⟩
    ·have hqi : ¬ (q : Int) < (rn : Int) := by omega
     have HEr : Hid (eqF sameRd redirs redirs' = true) := hide (by rw [← (uh HHr).1, List.drop_eq_nil_of_le (by rw [← (uh HLN).2.1.1]; omega), List.drop_eq_nil_of_le (by rw [← (uh HLN).2.1.2]; omega)]; rfl)
     clear z2 HELr
     go_wp2_with fail
     clear z1
     go_loopw [7] (fun i wr => ∃ q : Nat, q ≤ inn ∧ i = .int .i64 (q : Int) ∧ Hid (eqF sameIt (items.drop q) (items'.drop q) = eqF sameIt items items' ∧ Below W0.heap.size W0 wr)) (fun i _ => inn - (intOf i).toNat)
     case atStart => exact ⟨0, Nat.zero_le _, rfl, hide ⟨rfl, (uh HHr).2⟩⟩
     case round =>
      obtain ⟨q, hq, rfl, HHi⟩ := hrel
      obtain ⟨wC, hwx⟩ : ∃ z, z = wr := ⟨_, rfl⟩
      subst hwx
      have z1 : wC.cell? ⟨na, 8, none⟩ = some (.slice ia inn ic) := (uh HBX _ (uh HHi).2).2.2.2.2.2.2.2.2.2.2.2.2.2.2.2.2.1
      have z2 : wC.cell? ⟨nb, 8, none⟩ = some (.slice iaq inn icq) := (uh HBX _ (uh HHi).2).2.2.2.2.2.2.2.2.2.2.2.2.2.2.2.2.2
      by_cases hqn : q < inn
      ·obtain ⟨p, hp⟩ : ∃ p, items[q]? = some p := ⟨items[q]'(by rw [← (uh HLN).2.2.1]; exact hqn), List.getElem?_eq_getElem _⟩
       obtain ⟨p', hp'⟩ : ∃ p', items'[q]? = some p' := ⟨items'[q]'(by rw [← (uh HLN).2.2.2]; exact hqn), List.getElem?_eq_getElem _⟩
       obtain ⟨ga, gb, va1, vn1, vc1, ua1, un1, uc1, va2, vn2, vc2, ua2, un2, uc2, ⟨e1, hga, A1⟩, ⟨e2, hgb, A2⟩, hcall⟩ := uh HELi _ ((uh HZW).trans ((uh HHi).2.mono (uh HZW).size)) q p p' hp hp'
       have HST : Hid (eqF sameIt (items.drop q) (items'.drop q) = (sameIt p p' && eqF sameIt (items.drop (q + 1)) (items'.drop (q + 1)))) := hide (eqF_drop hp hp')
       have HCALL := hide hcall
       rw [e1] at z1
       rw [e2] at z2
       have hln := (uh HBX _ (uh HHi).2)
       have HSS : Hid (∀ W, Below wC.heap.size wC W → (W.cell? ⟨na, 8, none⟩ = some (.slice (some ⟨ga, 0, none⟩) inn ic) ∧ W.cell? ⟨nb, 8, none⟩ = some (.slice (some ⟨gb, 0, none⟩) inn icq)) ∧ (W.cell? ⟨ga, q * 2, none⟩ = some (.slice va1 vn1 vc1) ∧ W.cell? ⟨ga, q * 2 + 1, none⟩ = some (.slice ua1 un1 uc1)) ∧ W.cell? ⟨gb, q * 2, none⟩ = some (.slice va2 vn2 vc2) ∧ W.cell? ⟨gb, q * 2 + 1, none⟩ = some (.slice ua2 un2 uc2)) := hide (fun W hb => ⟨⟨(hb.cell (uh HNL _ (uh HHi).2).1).trans z1, (hb.cell (uh HNL _ (uh HHi).2).2).trans z2⟩, ⟨(hb.cell hga).trans A1.1, (hb.cell hga).trans A1.2⟩, (hb.cell hgb).trans A2.1, (hb.cell hgb).trans A2.2⟩)
       have HB0 := hide (Below.refl wC.heap.size wC)
       have HBD : Hid (∀ k, Below wC.heap.size wC (wC.drewN k)) := hide (fun k => bdr _ _)
       have hqi : (q : Int) < (inn : Int) := by omega
       obtain ⟨⟨s1, s2⟩, ⟨s3, s4⟩, s5, s6⟩ := uh HSS _ (uh HB0)
       clear hp hp' hcall A1 A2 hga hgb e1 e2 hln z1 z2
       cases hB : eqF sameW p.1 p'.1 with
       | true =>
         cases hC : eqF sameC p.2 p'.2 with
         | true =>
           rw [hB, hC] at HCALL
           have HBB := hide hB
           have HCC := hide hC
           clear hB hC
           go_wp2_with fail
           go_region_held3 (fun w' => (w'.cell? ⟨na, 8, none⟩ = some (.slice (some ⟨ga, 0, none⟩) inn ic) ∧ w'.cell? ⟨nb, 8, none⟩ = some (.slice (some ⟨gb, 0, none⟩) inn icq)) ∧ (w'.cell? ⟨ga, q * 2, none⟩ = some (.slice va1 vn1 vc1) ∧ w'.cell? ⟨ga, q * 2 + 1, none⟩ = some (.slice ua1 un1 uc1)) ∧ w'.cell? ⟨gb, q * 2, none⟩ = some (.slice va2 vn2 vc2) ∧ w'.cell? ⟨gb, q * 2 + 1, none⟩ = some (.slice ua2 un2 uc2)) (go_keep) (first | (go_at_call 25; refine ((uh HCALL _ (by first | exact uh HB0 | exact uh HBD _)).1).mono ?_; rintro e w2 ⟨rfl, b2⟩; obtain ⟨⟨s1, s2⟩, ⟨s3, s4⟩, s5, s6⟩ := uh HSS _ b2; have B2 := hide b2; clear b2) | (go_at_call 26; refine ((uh HCALL _ (uh B2)).2).mono ?_; rintro e w3 ⟨rfl, b3⟩; obtain ⟨⟨s1, s2⟩, ⟨s3, s4⟩, s5, s6⟩ := uh HSS _ b3; have B3 := hide b3; clear b3))
           go_wp2_with fail
           go_roundw
           case rel => exact ⟨q + 1, by omega, by go_num, hide ⟨by rw [← (uh HHi).1, uh HST]; simp [sameIt, uh HBB, uh HCC], (uh HHi).2.trans ((uh B3).mono (uh HHi).2.size)⟩⟩
           case measure => simp [intOf]; omega
         | false =>
           rw [hB, hC] at HCALL
           have HBB := hide hB
           have HCC := hide hC
           clear hB hC
           go_wp2_with fail
           go_region_held3 (fun w' => (w'.cell? ⟨na, 8, none⟩ = some (.slice (some ⟨ga, 0, none⟩) inn ic) ∧ w'.cell? ⟨nb, 8, none⟩ = some (.slice (some ⟨gb, 0, none⟩) inn icq)) ∧ (w'.cell? ⟨ga, q * 2, none⟩ = some (.slice va1 vn1 vc1) ∧ w'.cell? ⟨ga, q * 2 + 1, none⟩ = some (.slice ua1 un1 uc1)) ∧ w'.cell? ⟨gb, q * 2, none⟩ = some (.slice va2 vn2 vc2) ∧ w'.cell? ⟨gb, q * 2 + 1, none⟩ = some (.slice ua2 un2 uc2)) (go_keep) (first | (go_at_call 25; refine ((uh HCALL _ (by first | exact uh HB0 | exact uh HBD _)).1).mono ?_; rintro e w2 ⟨rfl, b2⟩; obtain ⟨⟨s1, s2⟩, ⟨s3, s4⟩, s5, s6⟩ := uh HSS _ b2; have B2 := hide b2; clear b2) | (go_at_call 26; refine ((uh HCALL _ (uh B2)).2).mono ?_; rintro e w3 ⟨rfl, b3⟩; obtain ⟨⟨s1, s2⟩, ⟨s3, s4⟩, s5, s6⟩ := uh HSS _ b3; have B3 := hide b3; clear b3))
           have hz : eqF sameIt items items' = false := by rw [← (uh HHi).1, uh HST]; simp [sameIt, uh HCC]
           have HZ := hide hz
           clear hz
           go_wp2_with fail
           go_ret
           exact ⟨ret_bool (by rw [uh HR, uh HZ]; simp), (uh HZW).trans (((uh HHi).2.trans ((uh B3).mono (uh HHi).2.size)).mono (uh HZW).size)⟩
       | false =>
         rw [hB] at HCALL
         have HBB := hide hB
         clear hB
         go_wp2_with fail
         refine wp_region_held_drew (S := fun w' => (w'.cell? ⟨na, 8, none⟩ = some (.slice (some ⟨ga, 0, none⟩) inn ic) ∧ w'.cell? ⟨nb, 8, none⟩ = some (.slice (some ⟨gb, 0, none⟩) inn icq)) ∧ (w'.cell? ⟨ga, q * 2, none⟩ = some (.slice va1 vn1 vc1) ∧ w'.cell? ⟨ga, q * 2 + 1, none⟩ = some (.slice ua1 un1 uc1)) ∧ w'.cell? ⟨gb, q * 2, none⟩ = some (.slice va2 vn2 vc2) ∧ w'.cell? ⟨gb, q * 2 + 1, none⟩ = some (.slice ua2 un2 uc2)) (by kernel_rfl) ⟨⟨s1, s2⟩, ⟨s3, s4⟩, s5, s6⟩ (fun hHeld => ?_)
         refine tk 0 (oi := ⟨some 155, .fieldAddr 33 (.tmp 2) 8, 0, "same.go:50", #[], none⟩) (v := ?_) ?_ ?_
         rotate_left
         ·intro w hSw; (try dsimp only at hSw); go_simp; (try with_reducible rfl)
         go_frame
         refine tk 1 (oi := ⟨some 156, .load 31 (.tmp 155), 31, "same.go:50", #[⟨0, .data⟩], none⟩) (v := ?_) ?_ ?_
         rotate_left
         ·intro w hSw; (try dsimp only at hSw); go_simp; (try with_reducible rfl)
         go_frame
         refine tk 2 (oi := ⟨some 157, .move (.tmp 7), 3, "same.go:50", #[], none⟩) (v := ?_) ?_ ?_
         rotate_left
         ·intro w hSw; (try dsimp only at hSw); go_simp; (try with_reducible rfl)
         go_frame
         refine tk 3 (oi := ⟨some 158, .indexAddr 31 (.tmp 156) (.tmp 157), 0, "same.go:50", #[⟨1, .data⟩, ⟨2, .data⟩], none⟩) (v := ?_) ?_ ?_
         rotate_left
         ·intro w hSw; (try dsimp only at hSw); go_simp; (try with_reducible rfl)
         go_frame
         refine tk 4 (oi := ⟨some 159, .fieldAddr 59 (.tmp 158) 0, 0, "same.go:50", #[⟨3, .data⟩], none⟩) (v := ?_) ?_ ?_
         rotate_left
         ·intro w hSw; (try dsimp only at hSw); go_simp; (try with_reducible rfl)
         go_frame
         refine tk 5 (oi := ⟨some 160, .load 29 (.tmp 159), 29, "same.go:50", #[⟨4, .data⟩], none⟩) (v := ?_) ?_ ?_
         rotate_left
         ·intro w hSw; (try dsimp only at hSw); go_simp; (try with_reducible rfl)
         go_frame
         refine tk 6 (oi := ⟨some 161, .fieldAddr 33 (.tmp 3) 8, 0, "same.go:50", #[], none⟩) (v := ?_) ?_ ?_
         rotate_left
         ·intro w hSw; (try dsimp only at hSw); go_simp; (try with_reducible rfl)
         go_frame
         refine tk 7 (oi := ⟨some 162, .load 31 (.tmp 161), 31, "same.go:50", #[⟨6, .data⟩], none⟩) (v := ?_) ?_ ?_
         rotate_left
         ·intro w hSw; (try dsimp only at hSw); go_simp; (try with_reducible rfl)
         go_frame
         refine tk 8 (oi := ⟨some 163, .move (.tmp 7), 3, "same.go:50", #[], none⟩) (v := ?_) ?_ ?_
         rotate_left
         ·intro w hSw; (try dsimp only at hSw); go_simp; (try with_reducible rfl)
         go_frame
         refine tk 9 (oi := ⟨some 164, .indexAddr 31 (.tmp 162) (.tmp 163), 0, "same.go:50", #[⟨7, .data⟩, ⟨8, .data⟩], none⟩) (v := ?_) ?_ ?_
         rotate_left
         ·intro w hSw; (try dsimp only at hSw); go_simp; (try with_reducible rfl)
         go_frame
         refine tk 10 (oi := ⟨some 165, .fieldAddr 59 (.tmp 164) 0, 0, "same.go:50", #[⟨9, .data⟩], none⟩) (v := ?_) ?_ ?_
         rotate_left
         ·intro w hSw; (try dsimp only at hSw); go_simp; (try with_reducible rfl)
         go_frame
         refine tk 11 (oi := ⟨some 166, .load 29 (.tmp 165), 29, "same.go:50", #[⟨10, .data⟩], none⟩) (v := ?_) ?_ ?_
         rotate_left
         ·intro w hSw; (try dsimp only at hSw); go_simp; (try with_reducible rfl)
         go_frame
         refine wpAnyH_ready (rs := [12]) (by kernel_rfl) (by simp) ?_
         refine AllReadyH.cons (o := ⟨some 167, .call { callee := Callee.value (Operand.func 25), args := #[.tmp 160, .tmp 166], argTypes := #[29, 29] }, 4, "same.go:50", #[⟨5, .data⟩, ⟨11, .data⟩], none⟩) rfl (fun KK hKK => ?_) AllReadyH.nil
         go_simp
         refine ((uh HCALL _ (by first | exact uh HB0 | exact uh HBD _)).1).mono ?_
         rintro e w2 ⟨rfl, b2⟩
         obtain ⟨⟨s1, s2⟩, ⟨s3, s4⟩, s5, s6⟩ := uh HSS _ b2
         have B2 := hide b2
         clear b2
         refine hKK.out _ _ ⟨⟨s1, s2⟩, ⟨s3, s4⟩, s5, s6⟩ (fun hHeld => ?_)
         clear hKK KK
         try go_frame
         refine tk 13 (oi := ⟨some 168, .unOp UnOp.not 4 (.tmp 167), 4, "same.go:50", #[⟨12, .data⟩], none⟩) (v := ?_) ?_ ?_
         rotate_left
         ·intro w hSw; (try dsimp only at hSw); go_simp; (try with_reducible rfl)
         go_frame
         refine tk 14 (oi := ⟨some 169, .move (.tmp 168), 4, "same.go:50", #[⟨13, .data⟩, ⟨12, .chain⟩], none⟩) (v := ?_) ?_ ?_
         rotate_left
         ·intro w hSw; (try dsimp only at hSw); go_simp; (try with_reducible rfl)
         go_frame
         refine wpAnyH_take (i := 15) (oi := ⟨some 170, .fieldAddr 33 (.tmp 2) 8, 0, "same.go:50", #[⟨14, .guard⟩], some (14, false)⟩) (v := undef) rfl (by kernel_rfl) (by kernel_rfl) (by kernel_rfl) (fun _ _ _ h => h) (Or.inr ⟨by kernel_rfl, rfl⟩) (by assumption) ?_
         go_frame
         refine wpAnyH_take (i := 16) (oi := ⟨some 171, .load 31 (.tmp 170), 31, "same.go:50", #[⟨15, .data⟩, ⟨14, .guard⟩], some (14, false)⟩) (v := undef) rfl (by kernel_rfl) (by kernel_rfl) (by kernel_rfl) (fun _ _ _ h => h) (Or.inr ⟨by kernel_rfl, rfl⟩) (by assumption) ?_
         go_frame
         refine wpAnyH_take (i := 17) (oi := ⟨some 172, .move (.tmp 7), 3, "same.go:50", #[⟨14, .guard⟩], some (14, false)⟩) (v := undef) rfl (by kernel_rfl) (by kernel_rfl) (by kernel_rfl) (fun _ _ _ h => h) (Or.inr ⟨by kernel_rfl, rfl⟩) (by assumption) ?_
         go_frame
         refine wpAnyH_take (i := 18) (oi := ⟨some 173, .indexAddr 31 (.tmp 171) (.tmp 172), 0, "same.go:50", #[⟨16, .data⟩, ⟨17, .data⟩, ⟨14, .guard⟩], some (14, false)⟩) (v := undef) rfl (by kernel_rfl) (by kernel_rfl) (by kernel_rfl) (fun _ _ _ h => h) (Or.inr ⟨by kernel_rfl, rfl⟩) (by assumption) ?_
         go_frame
         refine wpAnyH_take (i := 19) (oi := ⟨some 174, .fieldAddr 59 (.tmp 173) 1, 0, "same.go:50", #[⟨18, .data⟩, ⟨14, .guard⟩], some (14, false)⟩) (v := undef) rfl (by kernel_rfl) (by kernel_rfl) (by kernel_rfl) (fun _ _ _ h => h) (Or.inr ⟨by kernel_rfl, rfl⟩) (by assumption) ?_
         go_frame
         refine wpAnyH_take (i := 20) (oi := ⟨some 175, .load 23 (.tmp 174), 23, "same.go:50", #[⟨19, .data⟩, ⟨14, .guard⟩], some (14, false)⟩) (v := undef) rfl (by kernel_rfl) (by kernel_rfl) (by kernel_rfl) (fun _ _ _ h => h) (Or.inr ⟨by kernel_rfl, rfl⟩) (by assumption) ?_
         go_frame
         refine wpAnyH_take (i := 21) (oi := ⟨some 176, .fieldAddr 33 (.tmp 3) 8, 0, "same.go:50", #[⟨14, .guard⟩], some (14, false)⟩) (v := undef) rfl (by kernel_rfl) (by kernel_rfl) (by kernel_rfl) (fun _ _ _ h => h) (Or.inr ⟨by kernel_rfl, rfl⟩) (by assumption) ?_
         go_frame
         refine wpAnyH_take (i := 22) (oi := ⟨some 177, .load 31 (.tmp 176), 31, "same.go:50", #[⟨21, .data⟩, ⟨14, .guard⟩], some (14, false)⟩) (v := undef) rfl (by kernel_rfl) (by kernel_rfl) (by kernel_rfl) (fun _ _ _ h => h) (Or.inr ⟨by kernel_rfl, rfl⟩) (by assumption) ?_
         go_frame
         refine wpAnyH_take (i := 23) (oi := ⟨some 178, .move (.tmp 7), 3, "same.go:50", #[⟨14, .guard⟩], some (14, false)⟩) (v := undef) rfl (by kernel_rfl) (by kernel_rfl) (by kernel_rfl) (fun _ _ _ h => h) (Or.inr ⟨by kernel_rfl, rfl⟩) (by assumption) ?_
         go_frame
         refine wpAnyH_take (i := 24) (oi := ⟨some 179, .indexAddr 31 (.tmp 177) (.tmp 178), 0, "same.go:50", #[⟨22, .data⟩, ⟨23, .data⟩, ⟨14, .guard⟩], some (14, false)⟩) (v := undef) rfl (by kernel_rfl) (by kernel_rfl) (by kernel_rfl) (fun _ _ _ h => h) (Or.inr ⟨by kernel_rfl, rfl⟩) (by assumption) ?_
         go_frame
         refine wpAnyH_take (i := 25) (oi := ⟨some 180, .fieldAddr 59 (.tmp 179) 1, 0, "same.go:50", #[⟨24, .data⟩, ⟨14, .guard⟩], some (14, false)⟩) (v := undef) rfl (by kernel_rfl) (by kernel_rfl) (by kernel_rfl) (fun _ _ _ h => h) (Or.inr ⟨by kernel_rfl, rfl⟩) (by assumption) ?_
         go_frame
         refine wpAnyH_take (i := 26) (oi := ⟨some 181, .load 23 (.tmp 180), 23, "same.go:50", #[⟨25, .data⟩, ⟨14, .guard⟩], some (14, false)⟩) (v := undef) rfl (by kernel_rfl) (by kernel_rfl) (by kernel_rfl) (fun _ _ _ h => h) (Or.inr ⟨by kernel_rfl, rfl⟩) (by assumption) ?_
         go_frame
         refine wpAnyH_take (i := 27) (oi := ⟨some 182, .call { callee := Callee.value (Operand.func 26), args := #[.tmp 175, .tmp 181], argTypes := #[23, 23] }, 4, "same.go:50", #[⟨20, .data⟩, ⟨26, .data⟩, ⟨14, .chain⟩, ⟨14, .guard⟩], some (14, false)⟩) (v := undef) rfl (by kernel_rfl) (by kernel_rfl) (by kernel_rfl) (fun _ _ _ h => h) (Or.inr ⟨by kernel_rfl, rfl⟩) (by assumption) ?_
         go_frame
         refine wpAnyH_take (i := 28) (oi := ⟨some 183, .unOp UnOp.not 4 (.tmp 182), 4, "same.go:50", #[⟨27, .data⟩, ⟨14, .guard⟩], some (14, false)⟩) (v := undef) rfl (by kernel_rfl) (by kernel_rfl) (by kernel_rfl) (fun _ _ _ h => h) (Or.inr ⟨by kernel_rfl, rfl⟩) (by assumption) ?_
         go_frame
         refine tk 29 (oi := ⟨some 184, .pick (.tmp 169) (Operand.const (Value.bool true)) (.tmp 183), 4, "same.go:50", #[⟨14, .data⟩, ⟨28, .data⟩], none⟩) (v := ?_) ?_ ?_
         rotate_left
         ·intro w hSw; (try dsimp only at hSw); go_simp; (try with_reducible rfl)
         go_frame
         clear hHeld
         refine wpAnyH_done (by kernel_rfl) ?_ _
         have hz : eqF sameIt items items' = false := by rw [← (uh HHi).1, uh HST]; simp [sameIt, uh HBB]
         have HZ := hide hz
         clear hz
         go_wp2_with fail
         go_ret
         exact ⟨ret_bool (by rw [uh HR, uh HZ]; simp), (uh HZW).trans (((uh HHi).2.trans ((uh B2).mono (uh HHi).2.size)).mono (uh HZW).size)⟩
      ·have hqi : ¬ (q : Int) < (inn : Int) := by omega
       have HEi : Hid (eqF sameIt items items' = true) := hide (by rw [← (uh HHi).1, List.drop_eq_nil_of_le (by rw [← (uh HLN).2.2.1]; omega), List.drop_eq_nil_of_le (by rw [← (uh HLN).2.2.2]; omega)]; rfl)
       clear z2 HELi
       have y1 : wC.cell? ⟨na, 3, none⟩ = some (.slice wa wn wc) := (uh HBX _ (uh HHi).2).2.2.2.2.2.2.1
       have y2 : wC.cell? ⟨nb, 3, none⟩ = some (.slice waq wnq wcq) := (uh HBX _ (uh HHi).2).2.2.2.2.2.2.2.1
       go_wp2_with fail
       clear z1
       refine (uh HCW _ ((uh HZW).trans ((uh HHi).2.mono (uh HZW).size))).mono ?_
       rintro e w5 ⟨rfl, b5⟩
       have B5 := hide ((uh HHi).2.trans (b5.mono (uh HHi).2.size))
       clear b5
       have y3 : w5.cell? ⟨na, 5, none⟩ = some (.slice ca cn cc) := (uh HBX _ (uh B5)).2.2.2.2.2.2.2.2.2.2.1
       have y4 : w5.cell? ⟨nb, 5, none⟩ = some (.slice caq cnq ccq) := (uh HBX _ (uh B5)).2.2.2.2.2.2.2.2.2.2.2.1
       cases hBW : eqF sameW words words' with
       | true =>
         have HBW := hide hBW
         clear hBW
         go_wp2_with fail
         refine (uh HCC _ ((uh HZW).trans ((uh B5).mono (uh HZW).size))).mono ?_
         rintro e w6 ⟨rfl, b6⟩
         have B6 := hide ((uh B5).trans (b6.mono (uh B5).size))
         clear b6
         go_wp2_with fail
         go_ret
         exact ⟨ret_bool (by rw [uh HR, uh HEl, uh HEr, uh HEi, uh HBW]; simp), (uh HZW).trans ((uh B6).mono (uh HZW).size)⟩
       | false =>
         have HBW := hide hBW
         clear hBW
         go_wp2_with fail
         go_ret
         exact ⟨ret_bool (by rw [uh HR, uh HBW]; simp), (uh HZW).trans ((uh B5).mono (uh HZW).size)⟩
end Go.Proofs.YtojjfdobilkknaaGreatDoor

/- The document's Same of any two commands.; ParseSames: the law's own walk. -/
import Derived.Test.YtojjfdobilkknaaGreatDoorM40
import Derived.Test.YtojjfdobilkknaaGreatDoorM14
import Derived.Test.YtojjfdobilkknaaGreatDoorM39
import Derived.Deep.LoopGhost
import Derived.Deep.RegionHeld3
set_option maxRecDepth 20000
set_option maxHeartbeats 16000000
namespace Go.Proofs.YtojjfdobilkknaaGreatDoor
open Go.RowKit
theorem eqF_refl {α : Type} {f : α → α → Bool} : ∀ l : List α, (∀ x ∈ l, f x x = true) → eqF f l l = true
 | [], _ => rfl
 | a :: l, h => by rw [eqF, h a (by simp), eqF_refl l (fun x hx => h x (by simp [hx]))]; rfl
theorem sameC_refl {c : Cm} (h : LnC c) : sameC c c = true := by
 induction h with
 | mk k no lets words redirs cmds name ev items h hc hi hb ih1 ih2 =>
   rw [sameC, sameIs_eq, sameCs_eq, eqF_refl cmds ih1, eqF_refl items (fun x hx => by
    unfold sameIt
    rw [eqF_refl x.1 (fun y _ => sameW_refl y), eqF_refl x.2 (ih2 x hx)]
    rfl), eqF_refl words (fun y _ => sameW_refl y), eqF_refl lets (fun y _ => by
    unfold sameLt
    rw [sameW_refl]
    simp), eqF_refl redirs (fun y _ => by
    unfold sameRd
    rw [sameW_refl]
    simp)]
   simp
theorem rsame_heads (w : World) (k1 k2 : Int) (n1 n2 e1 e2 : Bool) (m1 m2 : List UInt8) (la1 wa1 ra1 ca1 ia1 la2 wa2 ra2 ca2 ia2 : Option Addr) (ln1 lc1 wn1 wc1 rn1 rc1 cn1 cc1 in1 ic1 ln2 lc2 wn2 wc2 rn2 rc2 cn2 cc2 in2 ic2 : Nat) (hd : ((k1 == k2) && (n1 == n2) && (m1 == m2) && (e1 == e2) && ((ln1 : Int) == (ln2 : Int)) && ((rn1 : Int) == (rn2 : Int)) && ((in1 : Int) == (in2 : Int))) = false) :
 Calls Tryz.prog 7 #[.agg #[.int .i64 k1, .bool n1, .slice la1 ln1 lc1, .slice wa1 wn1 wc1, .slice ra1 rn1 rc1, .slice ca1 cn1 cc1, .string (BA m1), .bool e1, .slice ia1 in1 ic1], .agg #[.int .i64 k2, .bool n2, .slice la2 ln2 lc2, .slice wa2 wn2 wc2, .slice ra2 rn2 rc2, .slice ca2 cn2 cc2, .string (BA m2), .bool e2, .slice ia2 in2 ic2]] w fun e w' => e = .returned (.bool false) ∧ Below w.heap.size w w' := by
 obtain ⟨W0, hW0⟩ : ∃ W0, W0 = (w.alloc (.cells #[.int .i64 k1, .bool n1, .slice la1 ln1 lc1, .slice wa1 wn1 wc1, .slice ra1 rn1 rc1, .slice ca1 cn1 cc1, .string (BA m1), .bool e1, .slice ia1 in1 ic1] 33)).alloc (.cells #[.int .i64 k2, .bool n2, .slice la2 ln2 lc2, .slice wa2 wn2 wc2, .slice ra2 rn2 rc2, .slice ca2 cn2 cc2, .string (BA m2), .bool e2, .slice ia2 in2 ic2] 33) := ⟨_, rfl⟩
 obtain ⟨na, hna⟩ : ∃ na, na = w.heap.size := ⟨_, rfl⟩
 obtain ⟨nb, hnb⟩ : ∃ nb, nb = w.heap.size + 1 := ⟨_, rfl⟩
 have HZW : Hid (Below w.heap.size w W0) := hide (by rw [hW0]; exact ((Below.refl _ w).alloc (ler _) _).alloc (by simp) _)
 have hka : Blk W0 na 33 #[.int .i64 k1, .bool n1, .slice la1 ln1 lc1, .slice wa1 wn1 wc1, .slice ra1 rn1 rc1, .slice ca1 cn1 cc1, .string (BA m1), .bool e1, .slice ia1 in1 ic1] := by rw [hW0, hna]; exact (Blk.new _ _ _).alloc _
 have hkb : Blk W0 nb 33 #[.int .i64 k2, .bool n2, .slice la2 ln2 lc2, .slice wa2 wn2 wc2, .slice ra2 rn2 rc2, .slice ca2 cn2 cc2, .string (BA m2), .bool e2, .slice ia2 in2 ic2] := by
  have := Blk.new (w.alloc (.cells #[.int .i64 k1, .bool n1, .slice la1 ln1 lc1, .slice wa1 wn1 wc1, .slice ra1 rn1 rc1, .slice ca1 cn1 cc1, .string (BA m1), .bool e1, .slice ia1 in1 ic1] 33)) 33 #[.int .i64 k2, .bool n2, .slice la2 ln2 lc2, .slice wa2 wn2 wc2, .slice ra2 rn2 rc2, .slice ca2 cn2 cc2, .string (BA m2), .bool e2, .slice ia2 in2 ic2]
  rw [hW0, hnb]
  simpa using this
 obtain ⟨a0, a1, a2, a3, a4, a5, a6, a7, a8⟩ := cel9 hka
 obtain ⟨b0, b1, b2, b3, b4, b5, b6, b7, b8⟩ := cel9 hkb
 have HW0 := hide hW0
 have HNA := hide hna
 have HNB := hide hnb
 clear hW0 hna hnb hka hkb
 cases h1 : (k1 == k2)
 case' true => cases h2 : (n1 == n2)
 case' true.true => cases h3 : (m1 == m2)
 case' true.true.true => cases h4 : (e1 == e2)
 case' true.true.true.true => cases h5 : ((ln1 : Int) == (ln2 : Int))
 case' true.true.true.true.true => cases h6 : ((rn1 : Int) == (rn2 : Int))
 case' true.true.true.true.true.true => cases h7 : ((in1 : Int) == (in2 : Int))
 case' true.true.true.true.true.true.true =>
  rw [h1, h2, h3, h4, h5, h6, h7] at hd
  cases hd
 all_goals
  clear hd
  try rw [← BA_toList m1, ← BA_toList m2] at h3
  try have g1 : (k1 != k2) = !(k1 == k2) := rfl
  try rw [h1] at g1
  try have g2 : (n1 != n2) = !(n1 == n2) := rfl
  try rw [h2] at g2
  try have g4 : (e1 != e2) = !(e1 == e2) := rfl
  try rw [h4] at g4
  try have g5 : ((ln1 : Int) != (ln2 : Int)) = !((ln1 : Int) == (ln2 : Int)) := rfl
  try rw [h5] at g5
  try have g6 : ((rn1 : Int) != (rn2 : Int)) = !((rn1 : Int) == (rn2 : Int)) := rfl
  try rw [h6] at g6
  try have g7 : ((in1 : Int) != (in2 : Int)) = !((in1 : Int) == (in2 : Int)) := rfl
  try rw [h7] at g7
  simp only [Bool.not_true, Bool.not_false] at g1 g2 g4 g5 g6 g7
  go_enter Tryz.func7, Tryz.ntmps7
  go_upto_region 1 with fail
  rw [← uh HW0, ← uh HNB, ← uh HNA]
  clear HW0 HNB HNA
  go_wp2_with fail
  go_ret
  exact ⟨rfl, uh HZW⟩
theorem rel_l {w : World} {A B : Nat → Prop} {n : Nat} {la laq : Option Addr} {lc lcq : Nat} {lets lets' : List (List UInt8 × Wd)} (hx : RowAt Kl w A (.slice la n lc) lets) (hy : RowAt Kl w B (.slice laq n lcq) lets') (hA : ∀ k, A k → k < w.heap.size) (hB : ∀ k, B k → k < w.heap.size) : ∀ W, Below w.heap.size w W → ∀ (q : Nat) (p p' : (List UInt8 × Wd)), lets[q]? = some p → lets'[q]? = some p' → ∃ (ga gb : Nat) (va1 : Option Addr) (vn1 vc1 : Nat) (va2 : Option Addr) (vn2 vc2 : Nat), (la = some ⟨ga, 0, none⟩ ∧ ga < W.heap.size ∧ W.cell? ⟨ga, q * 2, none⟩ = some (.string (BA p.1)) ∧ W.cell? ⟨ga, q * 2 + 1, none⟩ = some (.slice va1 vn1 vc1)) ∧ (laq = some ⟨gb, 0, none⟩ ∧ gb < W.heap.size ∧ W.cell? ⟨gb, q * 2, none⟩ = some (.string (BA p'.1)) ∧ W.cell? ⟨gb, q * 2 + 1, none⟩ = some (.slice va2 vn2 vc2)) ∧ ∀ W', Below W.heap.size W W' → Calls Tryz.prog 24 #[.slice va1 vn1 vc1, .slice va2 vn2 vc2] W' (fun e w' => e = .returned (.bool (sameW p.2 p'.2)) ∧ Below W.heap.size W w') := by
 intro W hb i p q hp hq2
 obtain ⟨ga, ca, e1, hga, hel1⟩ := (row_b hx hA hb).el (by have := (List.getElem?_eq_some_iff.1 hp).1; omega)
 obtain ⟨gb, cb, e2, hgb, hel2⟩ := (row_b hy hB hb).el (by have := (List.getElem?_eq_some_iff.1 hq2).1; omega)
 obtain ⟨cs, r1, hc1⟩ := hel1 i p hp
 obtain ⟨ds, r2, hc2⟩ := hel2 i q hq2
 injection e1 with e1
 injection e2 with e2
 obtain ⟨v1, rfl, hv1⟩ := r1
 obtain ⟨v2, rfl, hv2⟩ := r2
 obtain ⟨va1, vc1, rfl, _⟩ := hv1.len
 obtain ⟨va2, vc2, rfl, _⟩ := hv2.len
 exact ⟨ga, gb, va1, _, vc1, va2, _, vc2, ⟨e1, lt_of_b hA hb _ hga, hc1 0 _ rfl, hc1 1 _ rfl⟩, ⟨e2, lt_of_b hB hb _ hgb, hc2 0 _ rfl, hc2 1 _ rfl⟩, fun W2 hb2 => (rsame_any p.2 q.2 _ _ W2 A B (hv1.kept (fun k hk => hb2.block k (lt_of_b hA hb k hk)) (fun _ hk => hk)) (hv2.kept (fun k hk => hb2.block k (lt_of_b hB hb k hk)) (fun _ hk => hk)) (lt_of_b (lt_of_b hA hb) hb2) (lt_of_b (lt_of_b hB hb) hb2)).mono (fun e w3 h3 => ⟨h3.1, hb2.trans (h3.2.mono hb2.size)⟩)⟩
theorem rel_r {w : World} {A B : Nat → Prop} {n : Nat} {ra raq : Option Addr} {rc rcq : Nat} {redirs redirs' : List (Int × Int × Wd)} (hx : RowAt Kr w A (.slice ra n rc) redirs) (hy : RowAt Kr w B (.slice raq n rcq) redirs') (hA : ∀ k, A k → k < w.heap.size) (hB : ∀ k, B k → k < w.heap.size) : ∀ W, Below w.heap.size w W → ∀ (q : Nat) (p p' : (Int × Int × Wd)), redirs[q]? = some p → redirs'[q]? = some p' → ∃ (ga gb : Nat) (va1 : Option Addr) (vn1 vc1 : Nat) (va2 : Option Addr) (vn2 vc2 : Nat), (ra = some ⟨ga, 0, none⟩ ∧ ga < W.heap.size ∧ W.cell? ⟨ga, q * 3, none⟩ = some (.int .i64 p.1) ∧ W.cell? ⟨ga, q * 3 + 1, none⟩ = some (.int .i64 p.2.1) ∧ W.cell? ⟨ga, q * 3 + 2, none⟩ = some (.slice va1 vn1 vc1)) ∧ (raq = some ⟨gb, 0, none⟩ ∧ gb < W.heap.size ∧ W.cell? ⟨gb, q * 3, none⟩ = some (.int .i64 p'.1) ∧ W.cell? ⟨gb, q * 3 + 1, none⟩ = some (.int .i64 p'.2.1) ∧ W.cell? ⟨gb, q * 3 + 2, none⟩ = some (.slice va2 vn2 vc2)) ∧ ∀ W', Below W.heap.size W W' → Calls Tryz.prog 24 #[.slice va1 vn1 vc1, .slice va2 vn2 vc2] W' (fun e w' => e = .returned (.bool (sameW p.2.2 p'.2.2)) ∧ Below W.heap.size W w') := by
 intro W hb i p q hp hq2
 obtain ⟨ga, ca, e1, hga, hel1⟩ := (row_b hx hA hb).el (by have := (List.getElem?_eq_some_iff.1 hp).1; omega)
 obtain ⟨gb, cb, e2, hgb, hel2⟩ := (row_b hy hB hb).el (by have := (List.getElem?_eq_some_iff.1 hq2).1; omega)
 obtain ⟨cs, r1, hc1⟩ := hel1 i p hp
 obtain ⟨ds, r2, hc2⟩ := hel2 i q hq2
 injection e1 with e1
 injection e2 with e2
 obtain ⟨v1, rfl, hv1⟩ := r1
 obtain ⟨v2, rfl, hv2⟩ := r2
 obtain ⟨va1, vc1, rfl, _⟩ := hv1.len
 obtain ⟨va2, vc2, rfl, _⟩ := hv2.len
 exact ⟨ga, gb, va1, _, vc1, va2, _, vc2, ⟨e1, lt_of_b hA hb _ hga, hc1 0 _ rfl, hc1 1 _ rfl, hc1 2 _ rfl⟩, ⟨e2, lt_of_b hB hb _ hgb, hc2 0 _ rfl, hc2 1 _ rfl, hc2 2 _ rfl⟩, fun W2 hb2 => (rsame_any p.2.2 q.2.2 _ _ W2 A B (hv1.kept (fun k hk => hb2.block k (lt_of_b hA hb k hk)) (fun _ hk => hk)) (hv2.kept (fun k hk => hb2.block k (lt_of_b hB hb k hk)) (fun _ hk => hk)) (lt_of_b (lt_of_b hA hb) hb2) (lt_of_b (lt_of_b hB hb) hb2)).mono (fun e w3 h3 => ⟨h3.1, hb2.trans (h3.2.mono hb2.size)⟩)⟩
theorem rel_i {w : World} {A B : Nat → Prop} {n : Nat} {ia iaq : Option Addr} {ic icq : Nat} {items items' : List (List Wd × List Cm)} (hx : RowAt Ki w A (.slice ia n ic) items) (hy : RowAt Ki w B (.slice iaq n icq) items') (hn9 : ∀ p ∈ items, p.1.length ≤ 9000 ∧ p.2.length ≤ 9000) (hok : ∀ p ∈ items, ∀ c ∈ p.2, RSameOk c) (hA : ∀ k, A k → k < w.heap.size) (hB : ∀ k, B k → k < w.heap.size) : ∀ W, Below w.heap.size w W → ∀ (q : Nat) (p p' : (List Wd × List Cm)), items[q]? = some p → items'[q]? = some p' → ∃ (ga gb : Nat) (va1 : Option Addr) (vn1 vc1 : Nat) (ua1 : Option Addr) (un1 uc1 : Nat) (va2 : Option Addr) (vn2 vc2 : Nat) (ua2 : Option Addr) (un2 uc2 : Nat), (ia = some ⟨ga, 0, none⟩ ∧ ga < W.heap.size ∧ W.cell? ⟨ga, q * 2, none⟩ = some (.slice va1 vn1 vc1) ∧ W.cell? ⟨ga, q * 2 + 1, none⟩ = some (.slice ua1 un1 uc1)) ∧ (iaq = some ⟨gb, 0, none⟩ ∧ gb < W.heap.size ∧ W.cell? ⟨gb, q * 2, none⟩ = some (.slice va2 vn2 vc2) ∧ W.cell? ⟨gb, q * 2 + 1, none⟩ = some (.slice ua2 un2 uc2)) ∧ ∀ W', Below W.heap.size W W' → Calls Tryz.prog 25 #[.slice va1 vn1 vc1, .slice va2 vn2 vc2] W' (fun e w' => e = .returned (.bool (eqF sameW p.1 p'.1)) ∧ Below W.heap.size W w') ∧ Calls Tryz.prog 26 #[.slice ua1 un1 uc1, .slice ua2 un2 uc2] W' (fun e w' => e = .returned (.bool (eqF sameC p.2 p'.2)) ∧ Below W.heap.size W w') := by
 intro W hb i p q hp hq2
 obtain ⟨ga, ca, e1, hga, hel1⟩ := (row_b hx hA hb).el (by have := (List.getElem?_eq_some_iff.1 hp).1; omega)
 obtain ⟨gb, cb, e2, hgb, hel2⟩ := (row_b hy hB hb).el (by have := (List.getElem?_eq_some_iff.1 hq2).1; omega)
 obtain ⟨cs, r1, hc1⟩ := hel1 i p hp
 obtain ⟨ds, r2, hc2⟩ := hel2 i q hq2
 injection e1 with e1
 injection e2 with e2
 obtain ⟨v1, u1, rfl, hv1, hu1⟩ := r1
 obtain ⟨v2, u2, rfl, hv2, hu2⟩ := r2
 obtain ⟨va1, vc1, rfl⟩ := hv1.slice
 obtain ⟨va2, vc2, rfl⟩ := hv2.slice
 obtain ⟨ua1, uc1, rfl⟩ := hu1.slice
 obtain ⟨ua2, uc2, rfl⟩ := hu2.slice
 exact ⟨ga, gb, va1, _, vc1, ua1, _, uc1, va2, _, vc2, ua2, _, uc2, ⟨e1, lt_of_b hA hb _ hga, hc1 0 _ rfl, hc1 1 _ rfl⟩, ⟨e2, lt_of_b hB hb _ hgb, hc2 0 _ rfl, hc2 1 _ rfl⟩, fun W2 hb2 => ⟨(rwords_any p.1 q.1 _ _ W2 A B (hn9 p (List.mem_of_getElem? hp)).1 (hv1.kept (fun k hk => hb2.block k (lt_of_b hA hb k hk)) (fun _ hk => hk)) (hv2.kept (fun k hk => hb2.block k (lt_of_b hB hb k hk)) (fun _ hk => hk)) (lt_of_b (lt_of_b hA hb) hb2) (lt_of_b (lt_of_b hB hb) hb2)).mono (fun e w3 h3 => ⟨h3.1, hb2.trans (h3.2.mono hb2.size)⟩), (rcmds_any p.2 q.2 _ _ W2 A B (hn9 p (List.mem_of_getElem? hp)).2 (hok p (List.mem_of_getElem? hp)) (hu1.kept (fun k hk => hb2.block k (lt_of_b hA hb k hk)) (fun _ hk => hk)) (hu2.kept (fun k hk => hb2.block k (lt_of_b hB hb k hk)) (fun _ hk => hk)) (lt_of_b (lt_of_b hA hb) hb2) (lt_of_b (lt_of_b hB hb) hb2)).mono (fun e w3 h3 => ⟨h3.1, hb2.trans (h3.2.mono hb2.size)⟩)⟩⟩
theorem rsameOk_of {c : Cm} (h : LnC c) : RSameOk c := by
 induction h with
 | mk k n lets words redirs cmds m e items hn hc hi hb ih1 ih2 =>
   intro d w A B cs ds hx hy hA hB
   obtain ⟨k', n', lets', words', redirs', cmds', m', e', items'⟩ := d
   obtain ⟨vl, vw, vr, vc, vi, rfl, l1, w1, r1, c1, i1⟩ := hx.rows
   obtain ⟨ul, uw, ur, uc, ui, rfl, l2, w2, r2, c2, i2⟩ := hy.rows
   rw [sameC, sameIs_eq, sameCs_eq]
   obtain ⟨la, lc, rfl⟩ := l1.slice
   obtain ⟨wa, wc, rfl⟩ := w1.slice
   obtain ⟨ra, rc, rfl⟩ := r1.slice
   obtain ⟨ca, cc, rfl⟩ := c1.slice
   obtain ⟨ia, ic, rfl⟩ := i1.slice
   obtain ⟨laq, lcq, rfl⟩ := l2.slice
   obtain ⟨waq, wcq, rfl⟩ := w2.slice
   obtain ⟨raq, rcq, rfl⟩ := r2.slice
   obtain ⟨caq, ccq, rfl⟩ := c2.slice
   obtain ⟨iaq, icq, rfl⟩ := i2.slice
   cases hd : (k == k' && n == n' && m == m' && e == e' && ((lets.length : Int) == (lets'.length : Int)) && ((redirs.length : Int) == (redirs'.length : Int)) && ((items.length : Int) == (items'.length : Int))) with
   | false =>
     have hz : (k == k' && n == n' && m == m' && e == e' && eqF sameLt lets lets' && eqF sameW words words' && eqF sameRd redirs redirs' && eqF sameIt items items' && eqF sameC cmds cmds') = false := by
      cases h1 : (k == k' && n == n' && m == m' && e == e') with
      | false => rfl
      | true =>
        rw [h1] at hd
        by_cases h2 : lets.length = lets'.length
        ·by_cases h3 : redirs.length = redirs'.length
         ·by_cases h4 : items.length = items'.length
          ·rw [h2, h3, h4] at hd
           simp at hd
          ·rw [eqF_len (f := sameIt) h4]
           simp
         ·rw [eqF_len (f := sameRd) h3]
          simp
        ·rw [eqF_len (f := sameLt) h2]
         simp
     rw [hz]
     exact rsame_heads w k k' n n' e e' m m' la wa ra ca ia laq waq raq caq iaq _ lc _ wc _ rc _ cc _ ic _ lcq _ wcq _ rcq _ ccq _ icq hd
   | true =>
     simp only [Bool.and_eq_true, beq_iff_eq] at hd
     obtain ⟨⟨⟨⟨⟨⟨rfl, rfl⟩, rfl⟩, rfl⟩, q1⟩, q2⟩, q3⟩ := hd
     have e1 : lets.length = lets'.length := by omega
     have e2 : redirs.length = redirs'.length := by omega
     have e3 : items.length = items'.length := by omega
     rw [← e1] at l2
     rw [← e2] at r2
     rw [← e3] at i2
     rw [← e1, ← e2, ← e3]
     have hz : (k == k && n == n && m == m && e == e && eqF sameLt lets lets' && eqF sameW words words' && eqF sameRd redirs redirs' && eqF sameIt items items' && eqF sameC cmds cmds') = (eqF sameLt lets lets' && eqF sameW words words' && eqF sameRd redirs redirs' && eqF sameIt items items' && eqF sameC cmds cmds') := by simp
     rw [hz]
     exact rsame_loops w k n e m la wa ra ca ia laq waq raq caq iaq _ lc _ wc _ rc _ cc _ ic lcq _ wcq rcq _ ccq icq lets lets' words words' redirs redirs' items items' cmds cmds' ⟨by omega, by omega, by omega⟩ ⟨⟨rfl, e1⟩, ⟨rfl, e2⟩, rfl, e3⟩ (rel_l l1 l2 hA hB) (rel_r r1 r2 hA hB) (rel_i i1 i2 (fun p hp => hi p hp) (fun p hp c hc => ih2 p hp c hc) hA hB)
      (fun W hb => rwords_any words words' _ _ W A B hn.2.1 (row_b w1 hA hb) (row_b w2 hB hb) (lt_of_b hA hb) (lt_of_b hB hb))
      (fun W hb => rcmds_any cmds cmds' _ _ W A B hn.2.2.2.1 ih1 (row_b c1 hA hb) (row_b c2 hB hb) (lt_of_b hA hb) (lt_of_b hB hb))
theorem all_same (l : List UInt8) (hl : l.length ≤ 4096) : ∀ c ∈ (prsL l).1, SameOk c ∧ RSameOk c ∧ sameC c c = true := fun c hc => by
 have h := (prsL_ln l (lexL_few l hl).1).2 c hc
 exact ⟨sameOk_of h, rsameOk_of h, sameC_refl h⟩
theorem parsesames_walk (s t : ByteArray) (w : World) (he : AEnv w) :
 Calls Tryz.prog 3 #[.string s, .string t] w fun e w' => e = .returned (.bool true) ∧ Below w.heap.size w w' := by
 have HAW : Hid (∀ W, Below w.heap.size w W → Calls Tryz.prog 4 #[] W fun e w' => e = .returned (.bool true) ∧ Below w.heap.size w w') := hide (fun W hW => (awake6_any W (he.below hW)).mono (fun e w' ⟨h1, h2⟩ => ⟨h1, hW.trans (h2.mono hW.size)⟩))
 by_cases hb : 1000 < s.size ∨ 1000 < t.size
 ·have hc : (1000 : Int) < (s.size : Int) ∨ (¬ (1000 : Int) < (s.size : Int) ∧ (1000 : Int) < (t.size : Int)) := by omega
  clear he hb
  rcases hc with hc | ⟨hc, hd⟩
  all_goals
   go_enter Tryz.func3, Tryz.ntmps3
   go_wp2_with fail
   refine (uh HAW _ (Below.refl _ _)).mono ?_
   rintro e w1 ⟨rfl, b1⟩
   have B1 := hide b1
   clear b1
   go_wp2
   go_ret
   exact ⟨rfl, uh B1⟩
 ·have hc : ¬ (1000 : Int) < (s.size : Int) := by omega
  have hd : ¬ (1000 : Int) < (t.size : Int) := by omega
  have hls := data_len s
  have hlt := data_len t
  have HP := hide (parse_env s.data.toList w (by rw [hls]; omega) he)
  have HP2 : Hid (∀ W, Below w.heap.size w W → _) := hide (fun W hW => parse_env t.data.toList W (by rw [hlt]; omega) (he.below hW))
  have hall := all_same s.data.toList (by rw [hls]; omega)
  have hmany := (prsL_ln s.data.toList (lexL_few _ (by rw [hls]; omega)).1).1
  simp only [BA_of] at HP HP2
  obtain ⟨R, hR⟩ : ∃ R, R = prsL s.data.toList := ⟨_, rfl⟩
  obtain ⟨R2, hR2⟩ : ∃ R2, R2 = prsL t.data.toList := ⟨_, rfl⟩
  rw [← hR] at HP hall hmany
  rw [← hR2] at HP2
  obtain ⟨us, p1, p2⟩ := R
  obtain ⟨bs, p3, p4⟩ := R2
  simp only at HP HP2 hall hmany
  have HALL := hide hall
  have HMY := hide hmany
  clear hmany hR hR2 hall hls hlt hb he
  go_enter Tryz.func3, Tryz.ntmps3
  go_wp2_with fail
  refine (uh HP).mono ?_
  rintro e w1 ⟨ad, n, cap, rfl, h1⟩
  have B1 := hide (uh h1).1
  have hrow1 := (uh h1).2
  obtain ⟨ad', cap', hv⟩ := hrow1.slice
  have hnn : n = us.length := by injection hv
  have HN := hide hnn
  have HR1 := hide hrow1
  clear h1 HP hv hrow1 hnn
  go_wp2_with fail
  refine (uh HP2 w1 (uh B1)).mono ?_
  rintro e w2 ⟨ad2, n2, cap2, rfl, h2⟩
  have B2 := hide ((uh B1).trans ((uh h2).1.mono (uh B1).size))
  have hrow2 := (uh h2).2
  obtain ⟨ad', cap', hv⟩ := hrow2.slice
  have hnn : n2 = bs.length := by injection hv
  have HN2 := hide hnn
  have hlt1 : ∀ k, New w w1 k → k < w2.heap.size := fun k hk => lle hk.2 (uh h2).1.size
  have hlt2 : ∀ k, New w1 w2 k → k < w2.heap.size := fun k hk => hk.2
  have hra : RowAt Kc w2 (New w w1) (.slice ad n cap) us := row_b (uh HR1) (fun k hk => hk.2) (uh h2).1
  have HELA : Hid (∀ W, Below w2.heap.size w2 W → ∀ (i : Nat) (c : Cm), us[i]? = some c → ∃ (g : Nat) (x : CV), ad = some ⟨g, 0, none⟩ ∧ g < W.heap.size ∧ (CC W g i x) ∧ CmAt W (New w w1) c x.l) := hide (fun W hb i c hc => by
   obtain ⟨g, cp, e1, hg, hel⟩ := (row_b hra hlt1 hb).el (by have := (List.getElem?_eq_some_iff.1 hc).1; omega)
   obtain ⟨cs, r1, hc1⟩ := hel i c hc
   injection e1 with e1
   have R1 := r1
   obtain ⟨x, rfl⟩ := CmAt.cv r1
   exact ⟨g, x, e1, lt_of_b hlt1 hb _ hg, ⟨hc1 0 _ rfl, hc1 1 _ rfl, hc1 2 _ rfl, hc1 3 _ rfl, hc1 4 _ rfl, hc1 5 _ rfl, hc1 6 _ rfl, hc1 7 _ rfl, hc1 8 _ rfl⟩, R1⟩)
  have HELB : Hid (∀ W, Below w2.heap.size w2 W → ∀ (i : Nat) (c : Cm), bs[i]? = some c → ∃ (g : Nat) (x : CV), ad2 = some ⟨g, 0, none⟩ ∧ g < W.heap.size ∧ (CC W g i x) ∧ CmAt W (New w1 w2) c x.l) := hide (fun W hb i c hc => by
   obtain ⟨g, cp, e1, hg, hel⟩ := (row_b hrow2 hlt2 hb).el (by have := (List.getElem?_eq_some_iff.1 hc).1; omega)
   obtain ⟨cs, r1, hc1⟩ := hel i c hc
   injection e1 with e1
   have R1 := r1
   obtain ⟨x, rfl⟩ := CmAt.cv r1
   exact ⟨g, x, e1, lt_of_b hlt2 hb _ hg, ⟨hc1 0 _ rfl, hc1 1 _ rfl, hc1 2 _ rfl, hc1 3 _ rfl, hc1 4 _ rfl, hc1 5 _ rfl, hc1 6 _ rfl, hc1 7 _ rfl, hc1 8 _ rfl⟩, R1⟩)
  have HL1 := hide hlt1
  have HL2 := hide hlt2
  clear h2 HP2 hv hrow2 hnn hra hlt1 hlt2 HR1 B1
  go_wp2_with fail
  go_loopw [11] (fun i wr => ∃ k : Nat, k ≤ n ∧ i = .int .i64 (k : Int) ∧ Hid (Below w2.heap.size w2 wr)) (fun i _ => n - (intOf i).toNat)
  case atStart => exact ⟨0, Nat.zero_le _, rfl, hide (Below.refl _ _)⟩
  case round =>
   obtain ⟨k, hk, rfl, HH⟩ := hrel
   by_cases hkn : k < n
   ·obtain ⟨c, hcc⟩ : ∃ c, us[k]? = some c := ⟨_, List.getElem?_eq_getElem (by rw [← uh HN]; exact hkn)⟩
    obtain ⟨ga, x1, rfl, hga, ⟨c0, c1, c2, c3, c4, c5, c6, c7, c8⟩, R1⟩ := uh HELA _ (uh HH) k c hcc
    obtain ⟨o1, o2, o3⟩ := uh HALL c (List.mem_of_getElem? hcc)
    have HRC := hide R1
    obtain ⟨wA, hwx⟩ : ∃ z, z = wr := ⟨_, rfl⟩
    subst hwx
    have HLA : Hid (∀ k, New w w1 k → k < wA.heap.size) := hide (lt_of_b (uh HL1) (uh HH))
    have HCALL : Hid (∀ W, Below wA.heap.size wA W → Calls Tryz.prog 6 #[.agg #[.int .i64 x1.k, .bool x1.no, .slice x1.al x1.nl x1.cl, .slice x1.aw x1.nw x1.cw, .slice x1.ar x1.nr x1.cr, .slice x1.ac x1.nc x1.cc, .string (BA x1.nm), .bool x1.ev, .slice x1.ai x1.ni x1.ci], .agg #[.int .i64 x1.k, .bool x1.no, .slice x1.al x1.nl x1.cl, .slice x1.aw x1.nw x1.cw, .slice x1.ar x1.nr x1.cr, .slice x1.ac x1.nc x1.cc, .string (BA x1.nm), .bool x1.ev, .slice x1.ai x1.ni x1.ci]] W fun e w' => e = .returned (.bool true) ∧ Below wA.heap.size wA w') := hide (fun W hb2 => by
     have h := o1 c W (New w w1) (New w w1) _ _ (CmAt.kept (uh HRC) (fun k hk => hb2.block k ((uh HLA) k hk)) (fun _ hk => hk)) (CmAt.kept (uh HRC) (fun k hk => hb2.block k ((uh HLA) k hk)) (fun _ hk => hk)) (lt_of_b (uh HLA) hb2) (lt_of_b (uh HLA) hb2)
     rw [o3] at h
     exact h.mono (fun e w3 h3 => ⟨h3.1, hb2.trans (h3.2.mono hb2.size)⟩))
    have HO1 := hide o1
    have HO2 := hide o2
    have HSS : Hid (∀ W, Below wA.heap.size wA W → CC W ga k x1) := hide (fun W hb => .of hb hga ⟨c0, c1, c2, c3, c4, c5, c6, c7, c8⟩)
    have HB0 := hide (Below.refl wA.heap.size wA)
    have HBD : Hid (∀ k, Below wA.heap.size wA (wA.drewN k)) := hide (fun k => bdr _ _)
    have hki : (k : Int) < (n : Int) := by omega
    have hk9 : (k : Int) < 9000 := by have := uh HMY; have := uh HN; omega
    have hk0 : (0 : Int) ≤ (k : Int) := by omega
    have HGA := hide hga
    have HKN := hide hkn
    obtain ⟨s0, s1, s2, s3, s4, s5, s6, s7, s8⟩ := uh HSS _ (uh HB0)
    clear hcc c0 c1 c2 c3 c4 c5 c6 c7 c8 o1 o2 o3 R1 hga HELA
    go_wp2_with fail
    go_region_held3 (fun w' => w'.cell? ⟨ga, k * 9, none⟩ = some (.int .i64 x1.k) ∧ w'.cell? ⟨ga, k * 9 + 1, none⟩ = some (.bool x1.no) ∧ w'.cell? ⟨ga, k * 9 + 2, none⟩ = some (.slice x1.al x1.nl x1.cl) ∧ w'.cell? ⟨ga, k * 9 + 3, none⟩ = some (.slice x1.aw x1.nw x1.cw) ∧ w'.cell? ⟨ga, k * 9 + 4, none⟩ = some (.slice x1.ar x1.nr x1.cr) ∧ w'.cell? ⟨ga, k * 9 + 5, none⟩ = some (.slice x1.ac x1.nc x1.cc) ∧ w'.cell? ⟨ga, k * 9 + 6, none⟩ = some (.string (BA x1.nm)) ∧ w'.cell? ⟨ga, k * 9 + 7, none⟩ = some (.bool x1.ev) ∧ w'.cell? ⟨ga, k * 9 + 8, none⟩ = some (.slice x1.ai x1.ni x1.ci)) (go_keep) ((go_at_call 6; refine (uh HCALL _ (by first | exact uh HB0 | exact uh HBD _)).mono ?_; rintro e w3 ⟨rfl, b3⟩; obtain ⟨s0, s1, s2, s3, s4, s5, s6, s7, s8⟩ := uh HSS _ b3; have B3 := hide b3; clear b3))
    have HSK := HSS
    clear s0 s1 s2 s3 s4 s5 s6 s7 s8 HCALL HSS
    go_wp2_with fail
    go_loopw [12] (fun i wr => ∃ q : Nat, q ≤ n2 ∧ i = .int .i64 (q : Int) ∧ Hid (Below wA.heap.size wA wr)) (fun i _ => n2 - (intOf i).toNat)
    case atStart => exact ⟨0, Nat.zero_le _, rfl, B3⟩
    case round =>
     obtain ⟨q, hq, rfl, HI⟩ := hrel
     by_cases hqn : q < n2 ∧ q < 5
     ·obtain ⟨d, hdd⟩ : ∃ d, bs[q]? = some d := ⟨_, List.getElem?_eq_getElem (by rw [← uh HN2]; exact hqn.1)⟩
      have HHB : Hid (Below w2.heap.size w2 wr) := hide ((uh HH).trans ((uh HI).mono (uh HH).size))
      obtain ⟨gb, x2, rfl, hgb, ⟨d0, d1, d2, d3, d4, d5, d6, d7, d8⟩, R2⟩ := uh HELB _ (uh HHB) q d hdd
      have HRD := hide R2
      obtain ⟨wB, hwx⟩ : ∃ z, z = wr := ⟨_, rfl⟩
      subst hwx
      have HLC : Hid (∀ k, New w w1 k → k < wB.heap.size) := hide (lt_of_b (uh HLA) (uh HI))
      have HLD : Hid (∀ k, New w1 w2 k → k < wB.heap.size) := hide (lt_of_b (uh HL2) (uh HHB))
      have HRB := hide (CmAt.kept (uh HRC) (fun k hk => (uh HI).block k ((uh HLA) k hk)) (fun _ hk => hk))
      obtain ⟨B, hB⟩ : ∃ B, B = sameC c d := ⟨_, rfl⟩
      have HC1 : Hid (∀ W, Below wB.heap.size wB W → Calls Tryz.prog 6 #[.agg #[.int .i64 x1.k, .bool x1.no, .slice x1.al x1.nl x1.cl, .slice x1.aw x1.nw x1.cw, .slice x1.ar x1.nr x1.cr, .slice x1.ac x1.nc x1.cc, .string (BA x1.nm), .bool x1.ev, .slice x1.ai x1.ni x1.ci], .agg #[.int .i64 x2.k, .bool x2.no, .slice x2.al x2.nl x2.cl, .slice x2.aw x2.nw x2.cw, .slice x2.ar x2.nr x2.cr, .slice x2.ac x2.nc x2.cc, .string (BA x2.nm), .bool x2.ev, .slice x2.ai x2.ni x2.ci]] W fun e w' => e = .returned (.bool B) ∧ Below wB.heap.size wB w') := hide (fun W hb2 => by
       rw [hB]
       exact (uh HO1 d W (New w w1) (New w1 w2) _ _ (CmAt.kept (uh HRB) (fun k hk => hb2.block k ((uh HLC) k hk)) (fun _ hk => hk)) (CmAt.kept (uh HRD) (fun k hk => hb2.block k ((uh HLD) k hk)) (fun _ hk => hk)) (lt_of_b (uh HLC) hb2) (lt_of_b (uh HLD) hb2)).mono (fun e w3 h3 => ⟨h3.1, hb2.trans (h3.2.mono hb2.size)⟩))
      have HC2 : Hid (∀ W, Below wB.heap.size wB W → Calls Tryz.prog 7 #[.agg #[.int .i64 x1.k, .bool x1.no, .slice x1.al x1.nl x1.cl, .slice x1.aw x1.nw x1.cw, .slice x1.ar x1.nr x1.cr, .slice x1.ac x1.nc x1.cc, .string (BA x1.nm), .bool x1.ev, .slice x1.ai x1.ni x1.ci], .agg #[.int .i64 x2.k, .bool x2.no, .slice x2.al x2.nl x2.cl, .slice x2.aw x2.nw x2.cw, .slice x2.ar x2.nr x2.cr, .slice x2.ac x2.nc x2.cc, .string (BA x2.nm), .bool x2.ev, .slice x2.ai x2.ni x2.ci]] W fun e w' => e = .returned (.bool B) ∧ Below wB.heap.size wB w') := hide (fun W hb2 => by
       rw [hB]
       exact (uh HO2 d W (New w w1) (New w1 w2) _ _ (CmAt.kept (uh HRB) (fun k hk => hb2.block k ((uh HLC) k hk)) (fun _ hk => hk)) (CmAt.kept (uh HRD) (fun k hk => hb2.block k ((uh HLD) k hk)) (fun _ hk => hk)) (lt_of_b (uh HLC) hb2) (lt_of_b (uh HLD) hb2)).mono (fun e w3 h3 => ⟨h3.1, hb2.trans (h3.2.mono hb2.size)⟩))
      have HSD : Hid (∀ W, Below wB.heap.size wB W → CC W ga k x1 ∧ CC W gb q x2) := hide (fun W hb => by
       obtain ⟨s0, s1, s2, s3, s4, s5, s6, s7, s8⟩ := uh HSK _ ((uh HI).trans (hb.mono (uh HI).size))
       exact ⟨⟨s0, s1, s2, s3, s4, s5, s6, s7, s8⟩, .of hb hgb ⟨d0, d1, d2, d3, d4, d5, d6, d7, d8⟩⟩)
      have hbb : (B != B) = false := by cases B <;> rfl
      have HB1 := hide (Below.refl wB.heap.size wB)
      have HBE : Hid (∀ k W, Below wB.heap.size wB W → Below wB.heap.size wB (W.drewN k)) := hide (fun k W h => h.trans ((bdr _ _).mono h.size))
      obtain ⟨hqn1, hqn2⟩ := hqn
      have hqi : (q : Int) < (n2 : Int) := by omega
      have hq5 : (q : Int) < 5 := by omega
      have hq0 : (0 : Int) ≤ (q : Int) := by omega
      obtain ⟨⟨s0, s1, s2, s3, s4, s5, s6, s7, s8⟩, t0, t1, t2, t3, t4, t5, t6, t7, t8⟩ := uh HSD _ (uh HB1)
      clear hdd d0 d1 d2 d3 d4 d5 d6 d7 d8 R2 hgb HRB HRD HLC HLD hB HELB HB0 HBD B3
      go_wp2_with fail
      go_region_held3 (fun w' => w'.cell? ⟨ga, k * 9, none⟩ = some (.int .i64 x1.k) ∧ w'.cell? ⟨ga, k * 9 + 1, none⟩ = some (.bool x1.no) ∧ w'.cell? ⟨ga, k * 9 + 2, none⟩ = some (.slice x1.al x1.nl x1.cl) ∧ w'.cell? ⟨ga, k * 9 + 3, none⟩ = some (.slice x1.aw x1.nw x1.cw) ∧ w'.cell? ⟨ga, k * 9 + 4, none⟩ = some (.slice x1.ar x1.nr x1.cr) ∧ w'.cell? ⟨ga, k * 9 + 5, none⟩ = some (.slice x1.ac x1.nc x1.cc) ∧ w'.cell? ⟨ga, k * 9 + 6, none⟩ = some (.string (BA x1.nm)) ∧ w'.cell? ⟨ga, k * 9 + 7, none⟩ = some (.bool x1.ev) ∧ w'.cell? ⟨ga, k * 9 + 8, none⟩ = some (.slice x1.ai x1.ni x1.ci) ∧ w'.cell? ⟨gb, q * 9, none⟩ = some (.int .i64 x2.k) ∧ w'.cell? ⟨gb, q * 9 + 1, none⟩ = some (.bool x2.no) ∧ w'.cell? ⟨gb, q * 9 + 2, none⟩ = some (.slice x2.al x2.nl x2.cl) ∧ w'.cell? ⟨gb, q * 9 + 3, none⟩ = some (.slice x2.aw x2.nw x2.cw) ∧ w'.cell? ⟨gb, q * 9 + 4, none⟩ = some (.slice x2.ar x2.nr x2.cr) ∧ w'.cell? ⟨gb, q * 9 + 5, none⟩ = some (.slice x2.ac x2.nc x2.cc) ∧ w'.cell? ⟨gb, q * 9 + 6, none⟩ = some (.string (BA x2.nm)) ∧ w'.cell? ⟨gb, q * 9 + 7, none⟩ = some (.bool x2.ev) ∧ w'.cell? ⟨gb, q * 9 + 8, none⟩ = some (.slice x2.ai x2.ni x2.ci)) (go_keep) (first
       | (go_at_call 6; refine (uh HC1 _ (by first | exact uh HB1 | exact uh HBE _ _ (uh HB1))).mono ?_; rintro e w3 ⟨rfl, b3⟩; obtain ⟨⟨s0, s1, s2, s3, s4, s5, s6, s7, s8⟩, t0, t1, t2, t3, t4, t5, t6, t7, t8⟩ := uh HSD _ b3; have B4 := hide b3; clear b3)
       | (go_at_call 7; refine (uh HC2 _ (by first | exact uh B4 | exact uh HBE _ _ (uh B4))).mono ?_; rintro e w4 ⟨rfl, b3⟩; obtain ⟨⟨s0, s1, s2, s3, s4, s5, s6, s7, s8⟩, t0, t1, t2, t3, t4, t5, t6, t7, t8⟩ := uh HSD _ b3; have B5 := hide b3; clear b3))
      have B6 := hide ((uh HI).trans ((uh B5).mono (uh HI).size))
      clear s0 s1 s2 s3 s4 s5 s6 s7 s8 t0 t1 t2 t3 t4 t5 t6 t7 t8 B4 B5 HSD HC1 HC2
      go_wp2_with fail
      go_roundw
      case rel => exact ⟨q + 1, by omega, by go_num, B6⟩
      case measure => simp [intOf]; omega
     ·have hqc : ¬ (q : Int) < (n2 : Int) ∨ ((q : Int) < (n2 : Int) ∧ ¬ (q : Int) < 5) := by omega
      have B6 : Hid (Below w2.heap.size w2 wr) := hide ((uh HH).trans ((uh HI).mono (uh HH).size))
      clear hqn
      rcases hqc with hqi | ⟨hqi, hq5⟩
      all_goals
       go_wp2_with fail
       go_roundw
       case rel => exact ⟨k + 1, by have := uh HKN; omega, by go_num, B6⟩
       case measure => have := uh HKN; simp [intOf]; omega
   ·have hki : ¬ (k : Int) < (n : Int) := by omega
    go_wp2_with fail
    refine (uh HAW _ ((uh B2).trans ((uh HH).mono (uh B2).size))).mono ?_
    rintro e w5 ⟨rfl, b5⟩
    have B5 := hide b5
    clear b5
    go_wp2
    go_ret
    exact ⟨rfl, uh B5⟩
end Go.Proofs.YtojjfdobilkknaaGreatDoor

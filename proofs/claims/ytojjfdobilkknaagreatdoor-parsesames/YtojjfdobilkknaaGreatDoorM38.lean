/- parse.Same, of the program: whether two commands are the same.; parse.Same, of the program, of any two commands.; parse.Same, of the program: it answers what the pure test says, of any command whose rows are no longer than 9000. -/
import Derived.Test.YtojjfdobilkknaaGreatDoorM36
import Derived.Test.YtojjfdobilkknaaGreatDoorM37
set_option maxRecDepth 20000
set_option maxHeartbeats 8000000
namespace Go.Proofs.YtojjfdobilkknaaGreatDoor
open Go.RowKit
def sameLt (p q : List UInt8 × Wd) : Bool := p.1 == q.1 && sameW p.2 q.2
def sameRd (p q : Int × Int × Wd) : Bool := p.1 == q.1 && p.2.1 == q.2.1 && sameW p.2.2 q.2.2
mutual
def sameC : Cm → Cm → Bool
 | .mk k n l w r c m e i, .mk k' n' l' w' r' c' m' e' i' => k == k' && n == n' && m == m' && e == e' && eqF sameLt l l' && eqF sameW w w' && eqF sameRd r r' && sameIs i i' && sameCs c c'
def sameCs : List Cm → List Cm → Bool
 | [], [] => true
 | a :: l, b :: r => sameC a b && sameCs l r
 | _, _ => false
def sameIs : List (List Wd × List Cm) → List (List Wd × List Cm) → Bool
 | [], [] => true
 | (w, c) :: l, (w', c') :: r => eqF sameW w w' && sameCs c c' && sameIs l r
 | _, _ => false
end
def sameIt (p q : List Wd × List Cm) : Bool := eqF sameW p.1 q.1 && eqF sameC p.2 q.2
theorem sameCs_eq : ∀ a b : List Cm, sameCs a b = eqF sameC a b
 | [], [] => by rw [sameCs]; rfl
 | [], _ :: _ => by rw [sameCs] <;> first | rfl | simp
 | _ :: _, [] => by rw [sameCs] <;> first | rfl | simp
 | a :: l, b :: r => by rw [sameCs, sameCs_eq l r]; rfl
theorem sameIs_eq : ∀ a b : List (List Wd × List Cm), sameIs a b = eqF sameIt a b
 | [], [] => by rw [sameIs]; rfl
 | [], _ :: _ => by rw [sameIs] <;> first | rfl | simp
 | _ :: _, [] => by rw [sameIs] <;> first | rfl | simp
 | (w, c) :: l, (w', c') :: r => by rw [sameIs, sameIs_eq l r, sameCs_eq]; rfl
inductive LnC : Cm → Prop
 | mk (k : Int) (no : Bool) (lets : List (List UInt8 × Wd)) (words : List Wd) (redirs : List (Int × Int × Wd)) (cmds : List Cm) (name : List UInt8) (ev : Bool) (items : List (List Wd × List Cm)) (h : lets.length ≤ 9000 ∧ words.length ≤ 9000 ∧ redirs.length ≤ 9000 ∧ cmds.length ≤ 9000 ∧ items.length ≤ 9000) (hc : ∀ c ∈ cmds, LnC c) (hi : ∀ x ∈ items, x.1.length ≤ 9000 ∧ x.2.length ≤ 9000) (hb : ∀ x ∈ items, ∀ c ∈ x.2, LnC c) : LnC (.mk k no lets words redirs cmds name ev items)
theorem sameLet_any (p q : List UInt8 × Wd) (cs ds : List Value) (w : World) (A B : Nat → Prop) (hx : Kl.rel w A p cs) (hy : Kl.rel w B q ds) (hA : ∀ k, A k → k < w.heap.size) (hB : ∀ k, B k → k < w.heap.size) :
 Calls Tryz.prog 16 #[.agg cs.toArray, .agg ds.toArray] w fun e w' => e = .returned (.bool (sameLt p q)) ∧ Below w.heap.size w w' := by
 obtain ⟨vx, rfl, hx⟩ := hx
 obtain ⟨vy, rfl, hy⟩ := hy
 obtain ⟨p1, p2⟩ := p
 obtain ⟨q1, q2⟩ := q
 simp only at hx hy
 have HW : Hid (∀ w1 : World, Below w.heap.size w w1 → Calls Tryz.prog 18 #[vx, vy] w1 fun e w' => e = .returned (.bool (sameW p2 q2)) ∧ Below w1.heap.size w1 w') := hide (fun w1 hb =>
  same_any _ _ _ _ w1 A B (hx.below hb hA) (hy.below hb hB) (fun k h => lle (hA k h) hb.size) (fun k h => lle (hB k h) hb.size))
 have HB : Hid (∀ x y, Below w.heap.size w ((w.alloc x).alloc y)) := hide (fun x y => ((Below.refl _ w).alloc (ler _) _).alloc (by simp) _)
 obtain ⟨va, vc, rfl, _⟩ := hx.len
 obtain ⟨ua, uc, rfl, _⟩ := hy.len
 unfold sameLt
 clear hx hy hA hB
 go_enter Tryz.func16, Tryz.ntmps16
 go_wp2_with (go_at_call 18; refine (uh HW _ (uh HB _ _)).mono ?_; rintro e w1 ⟨rfl, b1⟩)
 all_goals
  try rw [BA_toList, BA_toList] at *
  go_ret
  refine ⟨ret_bool (by simp [*]), ?_⟩
  first
  | exact uh HB _ _
  | exact (uh HB _ _).trans (b1.mono (by simp; omega))
theorem sameRedir_any (p q : Int × Int × Wd) (cs ds : List Value) (w : World) (A B : Nat → Prop) (hx : Kr.rel w A p cs) (hy : Kr.rel w B q ds) (hA : ∀ k, A k → k < w.heap.size) (hB : ∀ k, B k → k < w.heap.size) :
 Calls Tryz.prog 20 #[.agg cs.toArray, .agg ds.toArray] w fun e w' => e = .returned (.bool (sameRd p q)) ∧ Below w.heap.size w w' := by
 obtain ⟨vx, rfl, hx⟩ := hx
 obtain ⟨vy, rfl, hy⟩ := hy
 obtain ⟨p0, p1, p2⟩ := p
 obtain ⟨q0, q1, q2⟩ := q
 simp only at hx hy
 have HW : Hid (∀ w1 : World, Below w.heap.size w w1 → Calls Tryz.prog 18 #[vx, vy] w1 fun e w' => e = .returned (.bool (sameW p2 q2)) ∧ Below w1.heap.size w1 w') := hide (fun w1 hb =>
  same_any _ _ _ _ w1 A B (hx.below hb hA) (hy.below hb hB) (fun k h => lle (hA k h) hb.size) (fun k h => lle (hB k h) hb.size))
 have HB : Hid (∀ x y, Below w.heap.size w ((w.alloc x).alloc y)) := hide (fun x y => ((Below.refl _ w).alloc (ler _) _).alloc (by simp) _)
 obtain ⟨va, vc, rfl, _⟩ := hx.len
 obtain ⟨ua, uc, rfl, _⟩ := hy.len
 unfold sameRd
 clear hx hy hA hB
 go_enter Tryz.func20, Tryz.ntmps20
 go_wp2_with (go_at_call 18; refine (uh HW _ (uh HB _ _)).mono ?_; rintro e w1 ⟨rfl, b1⟩)
 all_goals
  go_ret
  refine ⟨ret_bool (by simp [*]), ?_⟩
  first
  | exact uh HB _ _
  | exact (uh HB _ _).trans (b1.mono (by simp; omega))
def SameOk (c : Cm) : Prop := ∀ (d : Cm) (w : World) (A B : Nat → Prop) (cs ds : List Value), CmAt w A c cs → CmAt w B d ds → (∀ k, A k → k < w.heap.size) → (∀ k, B k → k < w.heap.size) →
 Calls Tryz.prog 6 #[.agg cs.toArray, .agg ds.toArray] w fun e w' => e = .returned (.bool (sameC c d)) ∧ Below w.heap.size w w'
theorem words_eq (a b : List Wd) (x y : Value) (w : World) (A B : Nat → Prop) (hn : a.length ≤ 9000) (hx : RowAt Kw w A x a) (hy : RowAt Kw w B y b) (hA : ∀ k, A k → k < w.heap.size) (hB : ∀ k, B k → k < w.heap.size) : Calls Tryz.prog 17 #[x, y, .func (Fn.func 18) #[] #[]] w fun e w' => e = .returned (.bool (eqF sameW a b)) ∧ Below w.heap.size w w' :=
 eq_Word sameW a b x y w A B (by omega) hx hy hA hB (fun W hb i p q cs ds _ _ h1 h2 => by
  obtain ⟨v, rfl, h3⟩ := h1
  obtain ⟨u, rfl, h4⟩ := h2
  exact same_any p q v u W A B h3 h4 (fun k h => lle (hA k h) hb.size) (fun k h => lle (hB k h) hb.size))
theorem cmds_eq (a b : List Cm) (x y : Value) (w : World) (A B : Nat → Prop) (hn : a.length ≤ 9000) (hok : ∀ c ∈ a, SameOk c) (hx : RowAt Kc w A x a) (hy : RowAt Kc w B y b) (hA : ∀ k, A k → k < w.heap.size) (hB : ∀ k, B k → k < w.heap.size) : Calls Tryz.prog 23 #[x, y, .func (Fn.func 6) #[] #[]] w fun e w' => e = .returned (.bool (eqF sameC a b)) ∧ Below w.heap.size w w' :=
 eq_Cmd sameC a b x y w A B (by omega) hx hy hA hB (fun W hb i p q cs ds hp _ h1 h2 => hok p (List.mem_of_getElem? hp) q W A B cs ds h1 h2 (fun k h => lle (hA k h) hb.size) (fun k h => lle (hB k h) hb.size))
theorem sameItem_any (p q : List Wd × List Cm) (hl : p.1.length ≤ 9000 ∧ p.2.length ≤ 9000) (hok : ∀ c ∈ p.2, SameOk c) (cs ds : List Value) (w : World) (A B : Nat → Prop) (hx : Ki.rel w A p cs) (hy : Ki.rel w B q ds) (hA : ∀ k, A k → k < w.heap.size) (hB : ∀ k, B k → k < w.heap.size) :
 Calls Tryz.prog 22 #[.agg cs.toArray, .agg ds.toArray] w fun e w' => e = .returned (.bool (sameIt p q)) ∧ Below w.heap.size w w' := by
 obtain ⟨vx, bx, rfl, hx1, hx2⟩ := hx
 obtain ⟨vy, By, rfl, hy1, hy2⟩ := hy
 have HC : Hid (∀ W, Below w.heap.size w W → Calls Tryz.prog 17 #[vx, vy, .func (Fn.func 18) #[] #[]] W (fun e w' => e = .returned (.bool (eqF sameW p.1 q.1)) ∧ Below W.heap.size W w') ∧ Calls Tryz.prog 23 #[bx, By, .func (Fn.func 6) #[] #[]] W (fun e w' => e = .returned (.bool (eqF sameC p.2 q.2)) ∧ Below W.heap.size W w')) := hide (fun W hb =>
  have hA' := fun k h => lle (hA k h) hb.size
  have hB' := fun k h => lle (hB k h) hb.size
  ⟨words_eq _ _ _ _ W A B hl.1 (hx1.kept (fun k hk => hb.block k (hA k hk)) (fun k hk => hk)) (hy1.kept (fun k hk => hb.block k (hB k hk)) (fun k hk => hk)) hA' hB', cmds_eq _ _ _ _ W A B hl.2 hok (hx2.kept (fun k hk => hb.block k (hA k hk)) (fun k hk => hk)) (hy2.kept (fun k hk => hb.block k (hB k hk)) (fun k hk => hk)) hA' hB'⟩)
 obtain ⟨va, vc, rfl⟩ := hx1.slice
 obtain ⟨ua, uc, rfl⟩ := hy1.slice
 obtain ⟨xa, xc, rfl⟩ := hx2.slice
 obtain ⟨ya, yc, rfl⟩ := hy2.slice
 unfold sameIt
 obtain ⟨B1, hB1⟩ : ∃ B1, eqF sameW p.1 q.1 = B1 := ⟨_, rfl⟩
 obtain ⟨B2, hB2⟩ : ∃ B2, eqF sameC p.2 q.2 = B2 := ⟨_, rfl⟩
 rw [hB1, hB2] at HC
 rw [hB1, hB2]
 generalize p.1.length = n1 at HC ⊢
 generalize p.2.length = n2 at HC ⊢
 generalize q.1.length = n3 at HC ⊢
 generalize q.2.length = n4 at HC ⊢
 obtain ⟨W0, hW0⟩ : ∃ W0, W0 = (w.alloc (.cells #[.slice va n1 vc, .slice xa n2 xc] 59)).alloc (.cells #[.slice ua n3 uc, .slice ya n4 yc] 59) := ⟨_, rfl⟩
 obtain ⟨na, hna⟩ : ∃ na, na = w.heap.size := ⟨_, rfl⟩
 obtain ⟨nb, hnb⟩ : ∃ nb, nb = w.heap.size + 1 := ⟨_, rfl⟩
 have HZW : Hid (Below w.heap.size w W0) := hide (by rw [hW0]; exact ((Below.refl _ w).alloc (ler _) _).alloc (by simp) _)
 have hka : Blk W0 na 59 #[.slice va n1 vc, .slice xa n2 xc] := by rw [hW0, hna]; exact (Blk.new _ _ _).alloc _
 have hkb : Blk W0 nb 59 #[.slice ua n3 uc, .slice ya n4 yc] := by
  have := Blk.new (w.alloc (.cells #[.slice va n1 vc, .slice xa n2 xc] 59)) 59 #[.slice ua n3 uc, .slice ya n4 yc]
  rw [hW0, hnb]
  simpa using this
 have HBX : Hid (∀ W, Below W0.heap.size W0 W → W.cell? ⟨na, 1, none⟩ = some (.slice xa n2 xc) ∧ W.cell? ⟨nb, 1, none⟩ = some (.slice ya n4 yc)) := hide (fun W hb => ⟨(hka.below hb hka.lt).cell 1 rfl, (hkb.below hb hkb.lt).cell 1 rfl⟩)
 have HC0 : Hid (∀ W, Below W0.heap.size W0 W → Calls Tryz.prog 17 #[.slice va n1 vc, .slice ua n3 uc, .func (Fn.func 18) #[] #[]] W (fun e w' => e = .returned (.bool B1) ∧ Below W0.heap.size W0 w') ∧ Calls Tryz.prog 23 #[.slice xa n2 xc, .slice ya n4 yc, .func (Fn.func 6) #[] #[]] W (fun e w' => e = .returned (.bool B2) ∧ Below W0.heap.size W0 w')) := hide (fun W hb =>
  have h := uh HC W ((uh HZW).trans (hb.mono (uh HZW).size))
  ⟨h.1.mono (fun e w' h2 => ⟨h2.1, hb.trans (h2.2.mono hb.size)⟩), h.2.mono (fun e w' h2 => ⟨h2.1, hb.trans (h2.2.mono hb.size)⟩)⟩)
 have HR0 := hide (Below.refl W0.heap.size W0)
 have c0 : W0.cell? ⟨na, 0, none⟩ = some (.slice va n1 vc) := hka.cell 0 rfl
 have c1 : W0.cell? ⟨nb, 0, none⟩ = some (.slice ua n3 uc) := hkb.cell 0 rfl
 have HW0 := hide hW0
 have HNA := hide hna
 have HNB := hide hnb
 clear hW0 hna hnb hka hkb HC hB1 hB2 hx1 hx2 hy1 hy2 hl hok hA hB
 cases B1 with
 | true =>
   go_enter Tryz.func22, Tryz.ntmps22
   go_upto_region 1 with fail
   rw [← uh HW0, ← uh HNB, ← uh HNA]
   clear HW0 HNB HNA
   go_wp2_with fail
   refine (uh HC0 _ (uh HR0)).1.mono ?_
   rintro e w1 ⟨rfl, b1⟩
   have f0 := (uh HBX _ b1).1
   have f1 := (uh HBX _ b1).2
   have HB1 := hide b1
   clear b1
   go_wp2_with fail
   refine (uh HC0 _ (uh HB1)).2.mono ?_
   rintro e w2 ⟨rfl, b2⟩
   have HB2 := hide b2
   clear b2
   go_wp2_with fail
   go_ret
   exact ⟨rfl, (uh HZW).trans ((uh HB2).mono (uh HZW).size)⟩
 | false =>
   go_enter Tryz.func22, Tryz.ntmps22
   go_upto_region 1 with fail
   rw [← uh HW0, ← uh HNB, ← uh HNA]
   clear HW0 HNB HNA
   go_wp2_with fail
   refine (uh HC0 _ (uh HR0)).1.mono ?_
   rintro e w1 ⟨rfl, b1⟩
   have HB1 := hide b1
   clear b1
   go_wp2_with fail
   go_ret
   exact ⟨rfl, (uh HZW).trans ((uh HB1).mono (uh HZW).size)⟩
theorem same_walk (w : World) (k kq : Int) (n nq e eq' : Bool) (m mq : List UInt8) (la wa ra ca ia laq waq raq caq iaq : Option Addr) (ln lc wn wc rn rc cn cc inn ic lnq lcq wnq wcq rnq rcq cnq ccq inq icq : Nat) (BL BW BR BI BC : Bool)
 (hl : ∀ W, Below w.heap.size w W → Calls Tryz.prog 15 #[.slice la ln lc, .slice laq lnq lcq, .func (Fn.func 16) #[] #[]] W fun e w' => e = .returned (.bool BL) ∧ Below W.heap.size W w')
 (hw : ∀ W, Below w.heap.size w W → Calls Tryz.prog 17 #[.slice wa wn wc, .slice waq wnq wcq, .func (Fn.func 18) #[] #[]] W fun e w' => e = .returned (.bool BW) ∧ Below W.heap.size W w')
 (hr : ∀ W, Below w.heap.size w W → Calls Tryz.prog 19 #[.slice ra rn rc, .slice raq rnq rcq, .func (Fn.func 20) #[] #[]] W fun e w' => e = .returned (.bool BR) ∧ Below W.heap.size W w')
 (hi : ∀ W, Below w.heap.size w W → Calls Tryz.prog 21 #[.slice ia inn ic, .slice iaq inq icq, .func (Fn.func 22) #[] #[]] W fun e w' => e = .returned (.bool BI) ∧ Below W.heap.size W w')
 (hc : ∀ W, Below w.heap.size w W → Calls Tryz.prog 23 #[.slice ca cn cc, .slice caq cnq ccq, .func (Fn.func 6) #[] #[]] W fun e w' => e = .returned (.bool BC) ∧ Below W.heap.size W w')
 : Calls Tryz.prog 6 #[.agg #[.int .i64 k, .bool n, .slice la ln lc, .slice wa wn wc, .slice ra rn rc, .slice ca cn cc, .string (BA m), .bool e, .slice ia inn ic], .agg #[.int .i64 kq, .bool nq, .slice laq lnq lcq, .slice waq wnq wcq, .slice raq rnq rcq, .slice caq cnq ccq, .string (BA mq), .bool eq', .slice iaq inq icq]] w fun e2 w' => e2 = .returned (.bool (k == kq && n == nq && m == mq && e == eq' && BL && BW && BR && BI && BC)) ∧ Below w.heap.size w w' := by
 obtain ⟨W0, hW0⟩ : ∃ W0, W0 = (w.alloc (.cells #[.int .i64 k, .bool n, .slice la ln lc, .slice wa wn wc, .slice ra rn rc, .slice ca cn cc, .string (BA m), .bool e, .slice ia inn ic] 33)).alloc (.cells #[.int .i64 kq, .bool nq, .slice laq lnq lcq, .slice waq wnq wcq, .slice raq rnq rcq, .slice caq cnq ccq, .string (BA mq), .bool eq', .slice iaq inq icq] 33) := ⟨_, rfl⟩
 obtain ⟨na, hna⟩ : ∃ na, na = w.heap.size := ⟨_, rfl⟩
 obtain ⟨nb, hnb⟩ : ∃ nb, nb = w.heap.size + 1 := ⟨_, rfl⟩
 have HZW : Hid (Below w.heap.size w W0) := hide (by rw [hW0]; exact ((Below.refl _ w).alloc (ler _) _).alloc (by simp) _)
 have hka : Blk W0 na 33 #[.int .i64 k, .bool n, .slice la ln lc, .slice wa wn wc, .slice ra rn rc, .slice ca cn cc, .string (BA m), .bool e, .slice ia inn ic] := by rw [hW0, hna]; exact (Blk.new _ _ _).alloc _
 have hkb : Blk W0 nb 33 #[.int .i64 kq, .bool nq, .slice laq lnq lcq, .slice waq wnq wcq, .slice raq rnq rcq, .slice caq cnq ccq, .string (BA mq), .bool eq', .slice iaq inq icq] := by
  have := Blk.new (w.alloc (.cells #[.int .i64 k, .bool n, .slice la ln lc, .slice wa wn wc, .slice ra rn rc, .slice ca cn cc, .string (BA m), .bool e, .slice ia inn ic] 33)) 33 #[.int .i64 kq, .bool nq, .slice laq lnq lcq, .slice waq wnq wcq, .slice raq rnq rcq, .slice caq cnq ccq, .string (BA mq), .bool eq', .slice iaq inq icq]
  rw [hW0, hnb]
  simpa using this
 have HBX : Hid (∀ W, Below W0.heap.size W0 W → (W.cell? ⟨na, 2, none⟩ = some (.slice la ln lc) ∧ W.cell? ⟨nb, 2, none⟩ = some (.slice laq lnq lcq)) ∧ (W.cell? ⟨na, 3, none⟩ = some (.slice wa wn wc) ∧ W.cell? ⟨nb, 3, none⟩ = some (.slice waq wnq wcq)) ∧ (W.cell? ⟨na, 4, none⟩ = some (.slice ra rn rc) ∧ W.cell? ⟨nb, 4, none⟩ = some (.slice raq rnq rcq)) ∧ (W.cell? ⟨na, 8, none⟩ = some (.slice ia inn ic) ∧ W.cell? ⟨nb, 8, none⟩ = some (.slice iaq inq icq)) ∧ (W.cell? ⟨na, 5, none⟩ = some (.slice ca cn cc) ∧ W.cell? ⟨nb, 5, none⟩ = some (.slice caq cnq ccq))) := hide (fun W hb => ⟨⟨(hka.below hb hka.lt).cell 2 rfl, (hkb.below hb hkb.lt).cell 2 rfl⟩, ⟨(hka.below hb hka.lt).cell 3 rfl, (hkb.below hb hkb.lt).cell 3 rfl⟩, ⟨(hka.below hb hka.lt).cell 4 rfl, (hkb.below hb hkb.lt).cell 4 rfl⟩, ⟨(hka.below hb hka.lt).cell 8 rfl, (hkb.below hb hkb.lt).cell 8 rfl⟩, ⟨(hka.below hb hka.lt).cell 5 rfl, (hkb.below hb hkb.lt).cell 5 rfl⟩⟩)
 have HL : Hid (∀ W, Below W0.heap.size W0 W → Calls Tryz.prog 15 #[.slice la ln lc, .slice laq lnq lcq, .func (Fn.func 16) #[] #[]] W fun e w' => e = .returned (.bool BL) ∧ Below W0.heap.size W0 w') := hide (fun W hb => (hl W ((uh HZW).trans (hb.mono (uh HZW).size))).mono (fun e w' h2 => ⟨h2.1, hb.trans (h2.2.mono hb.size)⟩))
 have HW : Hid (∀ W, Below W0.heap.size W0 W → Calls Tryz.prog 17 #[.slice wa wn wc, .slice waq wnq wcq, .func (Fn.func 18) #[] #[]] W fun e w' => e = .returned (.bool BW) ∧ Below W0.heap.size W0 w') := hide (fun W hb => (hw W ((uh HZW).trans (hb.mono (uh HZW).size))).mono (fun e w' h2 => ⟨h2.1, hb.trans (h2.2.mono hb.size)⟩))
 have HR : Hid (∀ W, Below W0.heap.size W0 W → Calls Tryz.prog 19 #[.slice ra rn rc, .slice raq rnq rcq, .func (Fn.func 20) #[] #[]] W fun e w' => e = .returned (.bool BR) ∧ Below W0.heap.size W0 w') := hide (fun W hb => (hr W ((uh HZW).trans (hb.mono (uh HZW).size))).mono (fun e w' h2 => ⟨h2.1, hb.trans (h2.2.mono hb.size)⟩))
 have HI : Hid (∀ W, Below W0.heap.size W0 W → Calls Tryz.prog 21 #[.slice ia inn ic, .slice iaq inq icq, .func (Fn.func 22) #[] #[]] W fun e w' => e = .returned (.bool BI) ∧ Below W0.heap.size W0 w') := hide (fun W hb => (hi W ((uh HZW).trans (hb.mono (uh HZW).size))).mono (fun e w' h2 => ⟨h2.1, hb.trans (h2.2.mono hb.size)⟩))
 have HC : Hid (∀ W, Below W0.heap.size W0 W → Calls Tryz.prog 23 #[.slice ca cn cc, .slice caq cnq ccq, .func (Fn.func 6) #[] #[]] W fun e w' => e = .returned (.bool BC) ∧ Below W0.heap.size W0 w') := hide (fun W hb => (hc W ((uh HZW).trans (hb.mono (uh HZW).size))).mono (fun e w' h2 => ⟨h2.1, hb.trans (h2.2.mono hb.size)⟩))
 have HR0 := hide (Below.refl W0.heap.size W0)
 have a0 : W0.cell? ⟨na, 0, none⟩ = some (.int .i64 k) := hka.cell 0 rfl
 have b0 : W0.cell? ⟨nb, 0, none⟩ = some (.int .i64 kq) := hkb.cell 0 rfl
 have a1 : W0.cell? ⟨na, 1, none⟩ = some (.bool n) := hka.cell 1 rfl
 have b1 : W0.cell? ⟨nb, 1, none⟩ = some (.bool nq) := hkb.cell 1 rfl
 have a2 : W0.cell? ⟨na, 2, none⟩ = some (.slice la ln lc) := hka.cell 2 rfl
 have b2 : W0.cell? ⟨nb, 2, none⟩ = some (.slice laq lnq lcq) := hkb.cell 2 rfl
 have a3 : W0.cell? ⟨na, 3, none⟩ = some (.slice wa wn wc) := hka.cell 3 rfl
 have b3 : W0.cell? ⟨nb, 3, none⟩ = some (.slice waq wnq wcq) := hkb.cell 3 rfl
 have a4 : W0.cell? ⟨na, 4, none⟩ = some (.slice ra rn rc) := hka.cell 4 rfl
 have b4 : W0.cell? ⟨nb, 4, none⟩ = some (.slice raq rnq rcq) := hkb.cell 4 rfl
 have a5 : W0.cell? ⟨na, 5, none⟩ = some (.slice ca cn cc) := hka.cell 5 rfl
 have b5 : W0.cell? ⟨nb, 5, none⟩ = some (.slice caq cnq ccq) := hkb.cell 5 rfl
 have a6 : W0.cell? ⟨na, 6, none⟩ = some (.string (BA m)) := hka.cell 6 rfl
 have b6 : W0.cell? ⟨nb, 6, none⟩ = some (.string (BA mq)) := hkb.cell 6 rfl
 have a7 : W0.cell? ⟨na, 7, none⟩ = some (.bool e) := hka.cell 7 rfl
 have b7 : W0.cell? ⟨nb, 7, none⟩ = some (.bool eq') := hkb.cell 7 rfl
 have a8 : W0.cell? ⟨na, 8, none⟩ = some (.slice ia inn ic) := hka.cell 8 rfl
 have b8 : W0.cell? ⟨nb, 8, none⟩ = some (.slice iaq inq icq) := hkb.cell 8 rfl
 have HW0 := hide hW0
 have HNA := hide hna
 have HNB := hide hnb
 clear hW0 hna hnb hka hkb hl hw hr hi hc
 cases h1 : (k == kq)
 case' true => cases h2 : (n == nq)
 case' true.true => cases h3 : (m == mq)
 case' true.true.true => cases h4 : (e == eq')
 case' true.true.true.true => cases BL
 case' true.true.true.true.true => cases BW
 case' true.true.true.true.true.true => cases BR
 case' true.true.true.true.true.true.true => cases BI
 case' true.true.true.true.true.true.true.true => cases BC
 all_goals
  try rw [← BA_toList m, ← BA_toList mq] at h3
 all_goals
  go_enter Tryz.func6, Tryz.ntmps6
  go_upto_region 1 with fail
  rw [← uh HW0, ← uh HNB, ← uh HNA]
  clear HW0 HNB HNA
  go_wp2_with (first
   | (go_at_call 15
      refine (uh HL _ (by first | exact uh HR0 | exact uh HB5)).mono ?_
      rintro e w5 ⟨rfl, b5⟩
      have zl := uh HBX _ b5
      have HB5 := hide b5
      clear b5
      obtain ⟨⟨x1, x2⟩, ⟨x3, x4⟩, ⟨x5, x6⟩, ⟨x7, x8⟩, x9, x10⟩ := zl)
   | (go_at_call 17
      refine (uh HW _ (by first | exact uh HR0 | exact uh HB5)).mono ?_
      rintro e w5 ⟨rfl, b5⟩
      have zw := uh HBX _ b5
      have HB5 := hide b5
      clear b5
      obtain ⟨⟨x1, x2⟩, ⟨x3, x4⟩, ⟨x5, x6⟩, ⟨x7, x8⟩, x9, x10⟩ := zw)
   | (go_at_call 19
      refine (uh HR _ (by first | exact uh HR0 | exact uh HB5)).mono ?_
      rintro e w5 ⟨rfl, b5⟩
      have zr := uh HBX _ b5
      have HB5 := hide b5
      clear b5
      obtain ⟨⟨x1, x2⟩, ⟨x3, x4⟩, ⟨x5, x6⟩, ⟨x7, x8⟩, x9, x10⟩ := zr)
   | (go_at_call 21
      refine (uh HI _ (by first | exact uh HR0 | exact uh HB5)).mono ?_
      rintro e w5 ⟨rfl, b5⟩
      have zi := uh HBX _ b5
      have HB5 := hide b5
      clear b5
      obtain ⟨⟨x1, x2⟩, ⟨x3, x4⟩, ⟨x5, x6⟩, ⟨x7, x8⟩, x9, x10⟩ := zi)
   | (go_at_call 23
      refine (uh HC _ (by first | exact uh HR0 | exact uh HB5)).mono ?_
      rintro e w5 ⟨rfl, b5⟩
      have zc := uh HBX _ b5
      have HB5 := hide b5
      clear b5
      obtain ⟨⟨x1, x2⟩, ⟨x3, x4⟩, ⟨x5, x6⟩, ⟨x7, x8⟩, x9, x10⟩ := zc))
  go_ret
  exact ⟨rfl, by first | exact (uh HZW).trans ((uh HB5).mono (uh HZW).size) | exact uh HZW⟩
theorem lt_of_b {w W : World} {A : Nat → Prop} (hA : ∀ k, A k → k < w.heap.size) (hb : Below w.heap.size w W) : ∀ k, A k → k < W.heap.size := fun k h => lle (hA k h) hb.size
theorem row_b {α : Type} {K : Kd α} {w W : World} {A : Nat → Prop} {v : Value} {l : List α} (h : RowAt K w A v l) (hA : ∀ k, A k → k < w.heap.size) (hb : Below w.heap.size w W) : RowAt K W A v l := h.kept (fun k hk => hb.block k (hA k hk)) (fun _ hk => hk)
theorem sameOk_of {c : Cm} (h : LnC c) : SameOk c := by
 induction h with
 | mk k n lets words redirs cmds m e items hn hc hi hb ih1 ih2 =>
   intro d w A B cs ds hx hy hA hB
   obtain ⟨k', n', lets', words', redirs', cmds', m', e', items'⟩ := d
   obtain ⟨vl, vw, vr, vc, vi, rfl, l1, w1, r1, c1, i1⟩ := hx.rows
   obtain ⟨ul, uw, ur, uc, ui, rfl, l2, w2, r2, c2, i2⟩ := hy.rows
   rw [sameC, sameIs_eq, sameCs_eq]
   have HL : ∀ W, Below w.heap.size w W → Calls Tryz.prog 15 #[vl, ul, .func (Fn.func 16) #[] #[]] W fun e w' => e = .returned (.bool (eqF sameLt lets lets')) ∧ Below W.heap.size W w' := fun W hb =>
    eq_Let sameLt lets lets' _ _ W A B (by omega) (row_b l1 hA hb) (row_b l2 hB hb) (lt_of_b hA hb) (lt_of_b hB hb) (fun W2 hb2 i p q cs ds _ _ h1 h2 => sameLet_any p q cs ds W2 A B h1 h2 (lt_of_b (lt_of_b hA hb) hb2) (lt_of_b (lt_of_b hB hb) hb2))
   have HW : ∀ W, Below w.heap.size w W → Calls Tryz.prog 17 #[vw, uw, .func (Fn.func 18) #[] #[]] W fun e w' => e = .returned (.bool (eqF sameW words words')) ∧ Below W.heap.size W w' := fun W hb =>
    words_eq words words' _ _ W A B hn.2.1 (row_b w1 hA hb) (row_b w2 hB hb) (lt_of_b hA hb) (lt_of_b hB hb)
   have HR : ∀ W, Below w.heap.size w W → Calls Tryz.prog 19 #[vr, ur, .func (Fn.func 20) #[] #[]] W fun e w' => e = .returned (.bool (eqF sameRd redirs redirs')) ∧ Below W.heap.size W w' := fun W hb =>
    eq_Redir sameRd redirs redirs' _ _ W A B (by omega) (row_b r1 hA hb) (row_b r2 hB hb) (lt_of_b hA hb) (lt_of_b hB hb) (fun W2 hb2 i p q cs ds _ _ h1 h2 => sameRedir_any p q cs ds W2 A B h1 h2 (lt_of_b (lt_of_b hA hb) hb2) (lt_of_b (lt_of_b hB hb) hb2))
   have HI : ∀ W, Below w.heap.size w W → Calls Tryz.prog 21 #[vi, ui, .func (Fn.func 22) #[] #[]] W fun e w' => e = .returned (.bool (eqF sameIt items items')) ∧ Below W.heap.size W w' := fun W hb =>
    eq_Item sameIt items items' _ _ W A B (by omega) (row_b i1 hA hb) (row_b i2 hB hb) (lt_of_b hA hb) (lt_of_b hB hb) (fun W2 hb2 i p q cs ds hp _ h1 h2 => sameItem_any p q (hi p (List.mem_of_getElem? hp)) (fun c hc => ih2 p (List.mem_of_getElem? hp) c hc) cs ds W2 A B h1 h2 (lt_of_b (lt_of_b hA hb) hb2) (lt_of_b (lt_of_b hB hb) hb2))
   have HC : ∀ W, Below w.heap.size w W → Calls Tryz.prog 23 #[vc, uc, .func (Fn.func 6) #[] #[]] W fun e w' => e = .returned (.bool (eqF sameC cmds cmds')) ∧ Below W.heap.size W w' := fun W hb =>
    cmds_eq cmds cmds' _ _ W A B hn.2.2.2.1 ih1 (row_b c1 hA hb) (row_b c2 hB hb) (lt_of_b hA hb) (lt_of_b hB hb)
   obtain ⟨la, lc, rfl⟩ := l1.slice
   obtain ⟨wa, wc, rfl⟩ := w1.slice
   obtain ⟨ra, rc, rfl⟩ := r1.slice
   obtain ⟨ca, cc, rfl⟩ := c1.slice
   obtain ⟨ia, ic, rfl⟩ := i1.slice
   obtain ⟨laq, lcq, rfl⟩ := l2.slice
   obtain ⟨waq, wcq, rfl⟩ := w2.slice
   obtain ⟨raq, rcq, rfl⟩ := r2.slice
   obtain ⟨caq, ccq, rfl⟩ := c2.slice
   obtain ⟨iaq, icq, rfl⟩ := i2.slice
   exact same_walk w k k' n n' e e' m m' la wa ra ca ia laq waq raq caq iaq _ lc _ wc _ rc _ cc _ ic _ lcq _ wcq _ rcq _ ccq _ icq _ _ _ _ _ HL HW HR HI HC
end Go.Proofs.YtojjfdobilkknaaGreatDoor

/-
  An expression is worked out: the function values that stand for expressions, called.
-/
import Derived.Test.YtlbpeknncakfeaaGreatDoorSet
namespace Go.Proofs.YtlbpeknncakfeaaGreatDoor
open Go.RowKit Go.Maps

def apS (r : Except Int Int) (σ : St) : Except Int (Int × St) := match r with
  | .error c => .error c
  | .ok n => .ok (n, σ)
/-- What an expression is, and what is known then. -/
def evalS (F : List UInt8 → List UInt8) : E → St → Except Int (Int × St)
  | .num n, σ => .ok (n, σ)
  | .name s, σ => askS F s σ
  | .sign k e, σ => match evalS F e σ with
    | .error c => .error c
    | .ok (a, σ1) => .ok (signI k a, σ1)
  | .op o x y, σ => match evalS F x σ with
    | .error c => .error c
    | .ok (a, σ1) => if enoughB o a then apS (applyS o a 0) σ1 else match evalS F y σ1 with
      | .error c => .error c
      | .ok (b, σ2) => apS (applyS o a b) σ2
  | .choice c y n, σ => match evalS F c σ with
    | .error c => .error c
    | .ok (a, σ1) => if a != 0 then evalS F y σ1 else evalS F n σ1
  | .set s e, σ => match evalS F e σ with
    | .error c => .error c
    | .ok (n, σ1) => .ok (n, setS s n σ1)
  | .chg s o e, σ => match evalS F e σ with
    | .error c => .error c
    | .ok (b, σ1) => match askS F s σ1 with
      | .error c => .error c
      | .ok (a, σ2) => apS (applyS o a b) σ2

theorem Sc.mono {w : World} {kb mb vb : Nat} {vars : List (List UInt8 × List UInt8)} {v : Value} {N N' : Nat} {σ : St} {sv : Value} (h : Sc w kb mb vb vars v N σ sv) (hn : N ≤ N') : Sc w kb mb vb vars v N' σ sv :=
  ⟨h.blk, h.map.mono hn, h.row, h.vblk, h.vrow, h.lt1, h.lt2, h.vlen, Nat.le_trans h.slen hn, h.envw, h.five⟩
theorem EvEnd.mono {w w0 : World} {kb mb vb : Nat} {vars : List (List UInt8 × List UInt8)} {v : Value} {N N' : Nat} {r : Except Int (Int × St)} {e : Ending} {w' : World} (h : EvEnd w kb mb vb vars v N r e w') (hb : Below mb w0 w) (hn : N ≤ N') : EvEnd w0 kb mb vb vars v N' r e w' := by
  refine ⟨hb.trans h.1, ?_⟩
  have h2 := h.2
  revert h2
  cases r with
  | error c => exact id
  | ok p => exact fun h2 => ⟨h2.1, h2.2.1, h2.2.2.choose, h2.2.2.choose_spec.mono hn⟩
theorem Rep.below {lo mb : Nat} {w w' : World} {x : E} {v : Value} (h : Rep lo mb w x v) (hb : Below mb w w') : Rep lo mb w' x v := Rep.mono (fun b _ h2 => hb.block b h2) (Nat.le_refl _) h

/-- The function value v, called over the scope, is the expression x. -/
def Works (kb mb vb : Nat) (vars : List (List UInt8 × List UInt8)) (va : Value) (x : E) (v : Value) (w : World) (M : Nat) (σ : St) : Prop :=
  ∃ k caps, v = .func (.func k) #[] caps ∧ (∀ args w, (callFunc k args).run Tryz.prog w = .ok (.enter k args) w) ∧
    Calls Tryz.prog k (#[.pointer (some ⟨kb, 0, none⟩)] ++ caps) w fun e w' => EvEnd w kb mb vb vars va (M + cost x) (evalS (findV vars) x σ) e w'

set_option maxRecDepth 20000 in
set_option maxHeartbeats 4000000 in
theorem work_leaf (kb mb vb lo : Nat) (vars : List (List UInt8 × List UInt8)) (va : Value) : (∀ n v w M σ sv, Sc w kb mb vb vars va M σ sv → Rep lo mb w (.num n) v → Works kb mb vb vars va (.num n) v w M σ) ∧
    (∀ s v w M σ sv, Sc w kb mb vb vars va M σ sv → Rep lo mb w (.name s) v → M ≤ 100000 → Works kb mb vb vars va (.name s) v w M σ) := by
  refine ⟨?_, ?_⟩
  · rintro n v w M σ sv hS ⟨b, hb, hn, rfl⟩
    refine ⟨_, _, rfl, fun args w => by kernel_rfl, ?_⟩
    have c : w.cell? ⟨b, 0, none⟩ = some (.int .i64 n) := hb.2.2.cell 0 rfl
    have HS := hide hS
    clear hS hb
    unfold at0
    go_enter Tryz.func151, Tryz.ntmps151
    go_wp2
    go_ret2
    exact ⟨Below.refl _ _, rfl, ⟨by omega, hn.2⟩, sv, unhide HS⟩
  · rintro s v w M σ sv hS ⟨b, hb, hs, rfl⟩ hM
    refine ⟨_, _, rfl, fun args w => by kernel_rfl, ?_⟩
    have c : w.cell? ⟨b, 0, none⟩ = some (.string (BA s)) := hb.2.2.cell 0 rfl
    have hN := number_of kb mb vb vars va M σ sv s w hS hs hM
    have HE : Hid (evalS (findV vars) (.name s) σ = askS (findV vars) s σ) := hide rfl
    rcases hq : askS (findV vars) s σ with c | ⟨n, σ1⟩
    · rw [hq] at hN
      have HE2 : Hid (evalS (findV vars) (.name s) σ = .error c) := hide (by rw [unhide HE, hq])
      have HN := hide hN
      clear hS hb hN hq
      unfold at0
      go_enter Tryz.func150, Tryz.ntmps150
      go_wp2_with fail
      refine (unhide HN).mono ?_
      rintro e w1 ⟨hb1, he, hc⟩
      subst he
      have HB := hide hb1
      clear hb1
      go_wp2
      go_ret2
      refine ⟨unhide HB, ?_⟩
      rw [unhide HE2]
      exact ⟨rfl, hc⟩
    · rw [hq] at hN
      have HE2 : Hid (evalS (findV vars) (.name s) σ = .ok (n, σ1)) := hide (by rw [unhide HE, hq])
      have HN := hide hN
      clear hS hb hN hq
      unfold at0
      go_enter Tryz.func150, Tryz.ntmps150
      go_wp2_with fail
      refine (unhide HN).mono ?_
      rintro e w1 ⟨hb1, he, hc⟩
      subst he
      have HB := hide hb1
      have HC := hide hc
      clear hb1 hc
      go_wp2
      go_ret2
      refine ⟨unhide HB, ?_⟩
      rw [unhide HE2]
      exact ⟨rfl, unhide HC⟩

set_option maxRecDepth 20000 in
set_option maxHeartbeats 4000000 in
theorem work_sign (kb mb vb lo : Nat) (vars : List (List UInt8 × List UInt8)) (va : Value) (k : Nat) (x : E) (ih : ∀ v w M σ sv, Sc w kb mb vb vars va M σ sv → Rep lo mb w x v → M + cost x ≤ 100000 → Works kb mb vb vars va x v w M σ) :
    ∀ v w M σ sv, Sc w kb mb vb vars va M σ sv → Rep lo mb w (.sign k x) v → M + cost x ≤ 100000 → Works kb mb vb vars va (.sign k x) v w M σ := by
  rintro v w M σ sv hS ⟨b1, b2, v1, h1, h2, hr, hk, rfl⟩ hM
  refine ⟨_, _, rfl, fun args w => by kernel_rfl, ?_⟩
  obtain ⟨k1, caps1, rfl, hcall, hw1⟩ := ih v1 w M σ sv hS hr hM
  have c1 : w.cell? ⟨b1, 0, none⟩ = some (.func (.func k1) #[] caps1) := h1.2.2.cell 0 rfl
  have hsg := sign_call k hk
  have HSG := hide (sign_any k hk)
  have HB2 := hide h2
  have HE : Hid (evalS (findV vars) (.sign k x) σ = match evalS (findV vars) x σ with | .error c => .error c | .ok (a, σ1) => .ok (signI k a, σ1)) := hide rfl
  rcases hq : evalS (findV vars) x σ with c | ⟨a, σ1⟩
  · rw [hq] at hw1
    have HE2 : Hid (evalS (findV vars) (.sign k x) σ = .error c) := hide (by rw [unhide HE, hq])
    have HW := hide hw1
    clear hS h1 h2 hr hw1 hq ih hsg
    unfold at0
    go_enter Tryz.func146, Tryz.ntmps146
    go_wp2_with fail
    refine (unhide HW).mono ?_
    rintro e w1 ⟨hb1, he, hc⟩
    subst he
    have hc2 : (c == 0) = false := by simpa using hc
    have HB := hide hb1
    have HC := hide hc
    clear hb1 hc
    go_wp2
    go_ret2
    refine ⟨unhide HB, ?_⟩
    rw [unhide HE2]
    exact ⟨rfl, unhide HC⟩
  · rw [hq] at hw1
    have HE2 : Hid (evalS (findV vars) (.sign k x) σ = .ok (signI k a, σ1)) := hide (by rw [unhide HE, hq])
    have HW := hide hw1
    clear hS h1 h2 hr hw1 hq ih
    unfold at0
    go_enter Tryz.func146, Tryz.ntmps146
    go_wp2_with fail
    refine (unhide HW).mono ?_
    rintro e w1 ⟨hb1, he, hc⟩
    subst he
    have c2 : w1.cell? ⟨b2, 0, none⟩ = some (.func (.func k) #[] #[]) := ((unhide HB2).2.2.below hb1 (unhide HB2).2.1).cell 0 rfl
    have HB := hide hb1
    have HC := hide hc
    clear hb1 hc
    go_wp2_with fail
    refine (unhide HSG a _).mono ?_
    rintro e w9 ⟨rfl, hx9⟩
    have hx8 := hx9.symm
    subst hx8
    clear hx9
    go_wp2
    go_ret2
    refine ⟨unhide HB, ?_⟩
    rw [unhide HE2]
    have hc := unhide HC
    exact ⟨rfl, i64_sign hc.1 k, hc.2⟩

end Go.Proofs.YtlbpeknncakfeaaGreatDoor

/-
  What expressions over two variables are that have numbers' texts.
-/
import Derived.Test.YtlbpeknncakfeaaGreatDoorTextVal
namespace Go.Proofs.YtlbpeknncakfeaaGreatDoor
open Go.RowKit Go.Maps

def abV (a b : Int) : List (List UInt8 × List UInt8) := [([97], textL a), ([98], textL b)]
theorem find_a (a b : Int) : findV (abV a b) [97] = textL a := rfl
theorem find_b (a b : Int) : findV (abV a b) [98] = textL b := rfl
theorem keyS (s : List UInt8) : WideAt.IsKeyLit (.string s) := by simp [WideAt.IsKeyLit]

/-- The number of a name that was not asked yet, and of one that was. -/
theorem ask_new {F : List UInt8 → List UInt8} {s : List UInt8} {σ : St} {n : Int} (h : Maps.has σ.D (.string s) = false) (hv : valS (BA (F s)) = some n) : askS F s σ = .ok (n, ⟨σ.D.put (.string s) (.lit (.int .i64 n)), σ.sets⟩) := by
  unfold askS
  rw [h, if_neg (by simp), hv]
theorem ask_old {F : List UInt8 → List UInt8} {s : List UInt8} {σ : St} {n : Int} (h : Maps.has σ.D (.string s) = true) (hv : σ.D.atKey (.string s) (.lit (.int .i64 0)) = .lit (.int .i64 n)) : askS F s σ = .ok (n, σ) := by
  unfold askS
  rw [h, if_pos rfl, hv]
  rfl
def D1 (a : Int) : DataW Unit := (DataW.map []).put (.string [97]) (.lit (.int .i64 a))
def D2 (a b : Int) : DataW Unit := (D1 a).put (.string [98]) (.lit (.int .i64 b))
theorem isMap1 (a : Int) : IsMap (D1 a) := isMap_empty.put _ _
theorem ne_ab : (Lit.string [98]) ≠ .string [97] := by intro e; injection e with e; exact absurd e (by decide)
theorem ne_ba : (Lit.string [97]) ≠ .string [98] := by intro e; injection e with e; exact absurd e (by decide)
theorem has_0 (s : List UInt8) : Maps.has (DataW.map [] : DataW Unit) (.string s) = false := rfl
theorem has_1b (a : Int) : Maps.has (D1 a) (.string [98]) = false := by unfold D1; rw [has_put_other ne_ab]; rfl
theorem has_1a (a : Int) : Maps.has (D1 a) (.string [97]) = true := has_put_same isMap_empty (keyS _) _
theorem at_1a (a : Int) (z : DataW Unit) : (D1 a).atKey (.string [97]) z = .lit (.int .i64 a) := atKey_put_same isMap_empty (keyS _) _ _
theorem has_2a (a b : Int) : Maps.has (D2 a b) (.string [97]) = true := by unfold D2; rw [has_put_other ne_ba]; exact has_1a a
theorem has_2b (a b : Int) : Maps.has (D2 a b) (.string [98]) = true := has_put_same (isMap1 a) (keyS _) _
theorem at_2a (a b : Int) (z : DataW Unit) : (D2 a b).atKey (.string [97]) z = .lit (.int .i64 a) := by unfold D2; rw [atKey_put_other ne_ba]; exact at_1a a z
theorem at_2b (a b : Int) (z : DataW Unit) : (D2 a b).atKey (.string [98]) z = .lit (.int .i64 b) := atKey_put_same (isMap1 a) (keyS _) _ _

section
variable {a b : Int} (ha : I64 a) (hb : I64 b)
theorem e_a0 (s : List (List UInt8 × List UInt8)) (ha : I64 a) : evalS (findV (abV a b)) (.name [97]) ⟨.map [], s⟩ = .ok (a, ⟨D1 a, s⟩) := ask_new (has_0 _) (by rw [find_a]; exact val_text ha)
theorem e_b1 (s : List (List UInt8 × List UInt8)) (hb : I64 b) : evalS (findV (abV a b)) (.name [98]) ⟨D1 a, s⟩ = .ok (b, ⟨D2 a b, s⟩) := ask_new (has_1b a) (by rw [find_b]; exact val_text hb)
theorem e_a2 (s : List (List UInt8 × List UInt8)) : evalS (findV (abV a b)) (.name [97]) ⟨D2 a b, s⟩ = .ok (a, ⟨D2 a b, s⟩) := ask_old (has_2a a b) (at_2a a b _)
theorem e_b2 (s : List (List UInt8 × List UInt8)) : evalS (findV (abV a b)) (.name [98]) ⟨D2 a b, s⟩ = .ok (b, ⟨D2 a b, s⟩) := ask_old (has_2b a b) (at_2b a b _)
end

theorem ev_op {F : List UInt8 → List UInt8} {o : Opr} {x y : E} {σ σ1 σ2 : St} {a b : Int} (hx : evalS F x σ = .ok (a, σ1)) (he : o.enough = none) (hy : evalS F y σ1 = .ok (b, σ2)) : evalS F (.op o x y) σ = apS (applyS o a b) σ2 := by
  rw [evalS, hx]
  simp only []
  rw [show enoughB o a = false by unfold enoughB; rw [he], if_neg (by simp), hy]
theorem ap_plain {o : Opr} (hd : o.div = false) (a b : Int) : applyS o a b = .ok (doI o.fn a b) := by unfold applyS; rw [hd]; rfl
theorem ap_div {o : Opr} {b : Int} (hb : b ≠ 0) (a : Int) : applyS o a b = .ok (doI o.fn a b) := by
  unfold applyS
  rw [show (b == 0) = false by simpa using hb, Bool.and_false]; rfl
theorem ap_zero {o : Opr} (hd : o.div = true) (a : Int) : applyS o a 0 = .error 13 := by unfold applyS; rw [hd]; rfl

theorem evalL_of {vars : List (List UInt8 × List UInt8)} {l : List UInt8} {x : E} (hl : l.length ≤ 4096) (ht : (trimT (BA l)).size ≠ 0) (hr : readS l = some x) : evalL vars l = match evalS (findV vars) x ⟨.map [], []⟩ with
    | .error c => .error c
    | .ok (n, σ) => .ok (n, σ.sets) := by
  unfold evalL
  rw [if_neg (by omega), if_neg ht, hr]
  rfl

/-- An operator between the two. -/
theorem ev_ab {a b : Int} (ha : I64 a) (hb : I64 b) {l : List UInt8} {o : Opr} (hl : l.length ≤ 4096) (ht : (trimT (BA l)).size ≠ 0) (hr : readS l = some (.op o (.name [97]) (.name [98]))) (he : o.enough = none) (hd : o.div = false) : evalL (abV a b) l = .ok (doI o.fn a b, []) := by
  rw [evalL_of hl ht hr, ev_op (e_a0 [] ha) he (e_b1 [] hb), ap_plain hd]
  rfl
theorem ev_an {a b : Int} (ha : I64 a) {l : List UInt8} {o : Opr} {n : Int} (hl : l.length ≤ 4096) (ht : (trimT (BA l)).size ≠ 0) (hr : readS l = some (.op o (.name [97]) (.num n))) (he : o.enough = none) (hd : o.div = false) : evalL (abV a b) l = .ok (doI o.fn a n, []) := by
  rw [evalL_of hl ht hr, ev_op (e_a0 [] ha) he (show evalS (findV (abV a b)) (.num n) ⟨D1 a, []⟩ = .ok (n, ⟨D1 a, []⟩) from rfl), ap_plain hd]
  rfl
theorem ev_sa {a b : Int} (ha : I64 a) {l : List UInt8} {k : Nat} (hl : l.length ≤ 4096) (ht : (trimT (BA l)).size ≠ 0) (hr : readS l = some (.sign k (.name [97]))) : evalL (abV a b) l = .ok (signI k a, []) := by
  rw [evalL_of hl ht hr, evalS, e_a0 [] ha]

def sumT : List (List UInt8) := [[97, 32, 43, 32, 98], [97, 32, 45, 32, 98], [97, 32, 42, 32, 98], [97, 32, 38, 32, 98], [97, 32, 124, 32, 98], [97, 32, 94, 32, 98], [45, 97], [126, 97], [97, 32, 60, 60, 32, 49], [97, 32, 62, 62, 32, 54, 51]]
def sumW (a b : Int) : List Int := [wrap64 (a + b), wrap64 (a - b), wrap64 (a * b), bits BinOp.and IntKind.i64 a b, bits BinOp.or IntKind.i64 a b, bits BinOp.xor IntKind.i64 a b, wrap64 (-a), bits BinOp.xor IntKind.i64 (-1) a, wrap64 (a * 2), a / 9223372036854775808]
theorem sum_ev {a b : Int} (ha : I64 a) (hb : I64 b) : ∀ k (hk : k < 10), evalL (abV a b) (sumT[k]'hk) = .ok ((sumW a b)[k]'hk, [])
  | 0, _ => ev_ab ha hb (l := [97, 32, 43, 32, 98]) (o := ⟨9, 76, none, false⟩) (by decide) (by decide) (by kernel_rfl) rfl rfl
  | 1, _ => ev_ab ha hb (l := [97, 32, 45, 32, 98]) (o := ⟨9, 77, none, false⟩) (by decide) (by decide) (by kernel_rfl) rfl rfl
  | 2, _ => ev_ab ha hb (l := [97, 32, 42, 32, 98]) (o := ⟨10, 78, none, false⟩) (by decide) (by decide) (by kernel_rfl) rfl rfl
  | 3, _ => ev_ab ha hb (l := [97, 32, 38, 32, 98]) (o := ⟨5, 67, none, false⟩) (by decide) (by decide) (by kernel_rfl) rfl rfl
  | 4, _ => ev_ab ha hb (l := [97, 32, 124, 32, 98]) (o := ⟨3, 65, none, false⟩) (by decide) (by decide) (by kernel_rfl) rfl rfl
  | 5, _ => ev_ab ha hb (l := [97, 32, 94, 32, 98]) (o := ⟨4, 66, none, false⟩) (by decide) (by decide) (by kernel_rfl) rfl rfl
  | 6, _ => ev_sa ha (l := [45, 97]) (k := 82) (by decide) (by decide) (by kernel_rfl)
  | 7, _ => ev_sa ha (l := [126, 97]) (k := 84) (by decide) (by decide) (by kernel_rfl)
  | 8, _ => (ev_an ha (l := [97, 32, 60, 60, 32, 49]) (o := ⟨8, 74, none, false⟩) (n := 1) (by decide) (by decide) (by kernel_rfl) rfl rfl).trans (by show Except.ok (wrap64 (a * 2 ^ shW 1), _) = _; rw [show (2 : Int) ^ shW 1 = 2 by decide]; rfl)
  | 9, _ => (ev_an ha (l := [97, 32, 62, 62, 32, 54, 51]) (o := ⟨8, 75, none, false⟩) (n := 63) (by decide) (by decide) (by kernel_rfl) rfl rfl).trans (by show Except.ok (a / 2 ^ shW 63, _) = _; rw [show (2 : Int) ^ shW 63 = 9223372036854775808 by decide]; rfl)
def cmpT : List (List UInt8) := [[97, 32, 60, 32, 98], [97, 32, 60, 61, 32, 98], [97, 32, 62, 32, 98], [97, 32, 62, 61, 32, 98], [97, 32, 61, 61, 32, 98], [97, 32, 33, 61, 32, 98]]
def cmpW (a b : Int) : List Bool := [decide (a < b), decide (a ≤ b), decide (b < a), decide (b ≤ a), a == b, a != b]
theorem cmp_ev {a b : Int} (ha : I64 a) (hb : I64 b) : ∀ k (hk : k < 6), evalL (abV a b) (cmpT[k]'hk) = .ok (truthI ((cmpW a b)[k]'hk), [])
  | 0, _ => ev_ab ha hb (l := [97, 32, 60, 32, 98]) (o := ⟨7, 70, none, false⟩) (by decide) (by decide) (by kernel_rfl) rfl rfl
  | 1, _ => ev_ab ha hb (l := [97, 32, 60, 61, 32, 98]) (o := ⟨7, 71, none, false⟩) (by decide) (by decide) (by kernel_rfl) rfl rfl
  | 2, _ => ev_ab ha hb (l := [97, 32, 62, 32, 98]) (o := ⟨7, 72, none, false⟩) (by decide) (by decide) (by kernel_rfl) rfl rfl
  | 3, _ => ev_ab ha hb (l := [97, 32, 62, 61, 32, 98]) (o := ⟨7, 73, none, false⟩) (by decide) (by decide) (by kernel_rfl) rfl rfl
  | 4, _ => ev_ab ha hb (l := [97, 32, 61, 61, 32, 98]) (o := ⟨6, 68, none, false⟩) (by decide) (by decide) (by kernel_rfl) rfl rfl
  | 5, _ => ev_ab ha hb (l := [97, 32, 33, 61, 32, 98]) (o := ⟨6, 69, none, false⟩) (by decide) (by decide) (by kernel_rfl) rfl rfl

theorem rem_zero {a : Int} (ha : I64 a) : evalL (abV a 0) [97, 32, 37, 32, 98] = .error 13 := by
  have hb : I64 0 := ⟨by decide, by decide⟩
  rw [evalL_of (by decide) (by decide) (show readS [97, 32, 37, 32, 98] = some (.op ⟨10, 80, none, true⟩ (.name [97]) (.name [98])) by kernel_rfl), ev_op (e_a0 [] ha) rfl (e_b1 [] hb), ap_zero rfl]
  rfl

theorem wrap_mod (x k : Int) : wrap64 (x + k * 18446744073709551616) = wrap64 x := by
  unfold wrap64
  rw [show x + k * 18446744073709551616 + 9223372036854775808 = (x + 9223372036854775808) + k * 18446744073709551616 by omega, Int.add_mul_emod_self_right]
theorem wrap_is (x : Int) : ∃ k, wrap64 x = x + k * 18446744073709551616 := by
  refine ⟨-((x + 9223372036854775808) / 18446744073709551616), ?_⟩
  unfold wrap64
  have := Int.emod_add_mul_ediv (x + 9223372036854775808) 18446744073709551616
  omega
theorem wrap_mul (x y : Int) : wrap64 (wrap64 x * y) = wrap64 (x * y) := by
  obtain ⟨k, hk⟩ := wrap_is x
  rw [hk, Int.add_mul, show k * 18446744073709551616 * y = (k * y) * 18446744073709551616 by rw [Int.mul_assoc, Int.mul_comm 18446744073709551616 y, ← Int.mul_assoc], wrap_mod]
theorem wrap_add (x y : Int) : wrap64 (wrap64 x + y) = wrap64 (x + y) := by
  obtain ⟨k, hk⟩ := wrap_is x
  rw [hk, show x + k * 18446744073709551616 + y = (x + y) + k * 18446744073709551616 by omega, wrap_mod]
theorem wrap_sub (x y : Int) : wrap64 (wrap64 x - y) = wrap64 (x - y) := by
  obtain ⟨k, hk⟩ := wrap_is x
  rw [hk, show x + k * 18446744073709551616 - y = (x - y) + k * 18446744073709551616 by omega, wrap_mod]
theorem quo_rem {a b : Int} : wrap64 (wrap64 (wrap64 (wrap64 (a.tdiv b) * b) + a.tmod b) - a) = 0 := by
  rw [wrap_mul, wrap_add, wrap_sub]
  have h := Int.tdiv_mul_add_tmod a b
  rw [show a.tdiv b * b + a.tmod b - a = 0 by omega]
  unfold wrap64
  omega
def sumL : List UInt8 := [97, 32, 47, 32, 98, 32, 42, 32, 98, 32, 43, 32, 97, 32, 37, 32, 98, 32, 45, 32, 97]
theorem sum_all {a b : Int} (ha : I64 a) (hb : I64 b) (h0 : b ≠ 0) : evalL (abV a b) sumL = .ok (0, []) := by
  rw [evalL_of (by decide) (by decide) (show readS sumL = some (.op ⟨9, 77, none, false⟩ (.op ⟨9, 76, none, false⟩ (.op ⟨10, 78, none, false⟩ (.op ⟨10, 79, none, true⟩ (.name [97]) (.name [98])) (.name [98])) (.op ⟨10, 80, none, true⟩ (.name [97]) (.name [98]))) (.name [97])) by kernel_rfl)]
  have q1 : evalS (findV (abV a b)) (.op ⟨10, 79, none, true⟩ (.name [97]) (.name [98])) ⟨.map [], []⟩ = .ok (wrap64 (a.tdiv b), ⟨D2 a b, []⟩) := by
    rw [ev_op (e_a0 [] ha) rfl (e_b1 [] hb), ap_div h0]; rfl
  have q2 : evalS (findV (abV a b)) (.op ⟨10, 78, none, false⟩ (.op ⟨10, 79, none, true⟩ (.name [97]) (.name [98])) (.name [98])) ⟨.map [], []⟩ = .ok (wrap64 (wrap64 (a.tdiv b) * b), ⟨D2 a b, []⟩) := by
    rw [ev_op q1 rfl (e_b2 []), ap_plain rfl]; rfl
  have q3 : evalS (findV (abV a b)) (.op ⟨10, 80, none, true⟩ (.name [97]) (.name [98])) ⟨D2 a b, []⟩ = .ok (a.tmod b, ⟨D2 a b, []⟩) := by
    rw [ev_op (e_a2 []) rfl (e_b2 []), ap_div h0]; rfl
  have q4 : evalS (findV (abV a b)) (.op ⟨9, 76, none, false⟩ (.op ⟨10, 78, none, false⟩ (.op ⟨10, 79, none, true⟩ (.name [97]) (.name [98])) (.name [98])) (.op ⟨10, 80, none, true⟩ (.name [97]) (.name [98]))) ⟨.map [], []⟩ = .ok (wrap64 (wrap64 (wrap64 (a.tdiv b) * b) + a.tmod b), ⟨D2 a b, []⟩) := by
    rw [ev_op q2 rfl q3, ap_plain rfl]; rfl
  rw [ev_op q4 rfl (e_a2 []), ap_plain rfl]
  show Except.ok (wrap64 (wrap64 (wrap64 (wrap64 (a.tdiv b) * b) + a.tmod b) - a), _) = _
  rw [quo_rem]

end Go.Proofs.YtlbpeknncakfeaaGreatDoor

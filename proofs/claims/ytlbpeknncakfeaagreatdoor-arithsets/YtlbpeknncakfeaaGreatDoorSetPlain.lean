/-
  What expressions that set are, over two variables that have numbers' texts.
-/
import Derived.Test.YtlbpeknncakfeaaGreatDoorSumPlain
namespace Go.Proofs.YtlbpeknncakfeaaGreatDoor
open Go.RowKit Go.Maps

def setL1 : List UInt8 := [99, 32, 61, 32, 97, 32, 45, 32, 98]
def setL2 : List UInt8 := [40, 97, 32, 43, 61, 32, 98, 41, 32, 45, 32, 97]
def setL3 : List UInt8 := [97, 32, 63, 32, 40, 120, 32, 61, 32, 98, 41, 32, 58, 32, 40, 121, 32, 61, 32, 98, 41]
def setL4 : List UInt8 := [49, 32, 124, 124, 32, 40, 120, 32, 61, 32, 49, 32, 47, 32, 48, 41]

theorem ev_set {F : List UInt8 → List UInt8} {s : List UInt8} {x : E} {σ σ1 : St} {n : Int} (hx : evalS F x σ = .ok (n, σ1)) : evalS F (.set s x) σ = .ok (n, setS s n σ1) := by
  rw [evalS, hx]
theorem set1 {a b : Int} (ha : I64 a) (hb : I64 b) : evalL (abV a b) setL1 = .ok (wrap64 (a - b), [([99], textL (wrap64 (a - b)))]) := by
  rw [evalL_of (by decide) (by decide) (show readS setL1 = some (.set [99] (.op ⟨9, 77, none, false⟩ (.name [97]) (.name [98]))) by kernel_rfl)]
  rw [ev_set (by rw [ev_op (e_a0 [] ha) rfl (e_b1 [] hb), ap_plain rfl]; rfl)]
  rfl
theorem i64_zero : I64 0 := ⟨by decide, by decide⟩
theorem wrap_self (x : Int) : wrap64 (x - x) = 0 := by
  rw [Int.sub_self]; unfold wrap64; omega
def D3 (a b c : Int) : DataW Unit := (((DataW.map []).put (.string [98]) (.lit (.int .i64 b))).put (.string [97]) (.lit (.int .i64 a))).put (.string [97]) (.lit (.int .i64 c))
theorem set2 {a b : Int} (ha : I64 a) (hb : I64 b) : evalL (abV a b) setL2 = .ok (0, [([97], textL (wrap64 (a + b)))]) := by
  rw [evalL_of (by decide) (by decide) (show readS setL2 = some (.op ⟨9, 77, none, false⟩ (.set [97] (.chg [97] ⟨9, 76, none, false⟩ (.name [98]))) (.name [97])) by kernel_rfl)]
  have q1 : evalS (findV (abV a b)) (.name [98]) ⟨.map [], []⟩ = .ok (b, ⟨(DataW.map []).put (.string [98]) (.lit (.int .i64 b)), []⟩) := ask_new (has_0 _) (by rw [find_b]; exact val_text hb)
  have q2 : askS (findV (abV a b)) [97] ⟨(DataW.map []).put (.string [98]) (.lit (.int .i64 b)), []⟩ = .ok (a, ⟨((DataW.map []).put (.string [98]) (.lit (.int .i64 b))).put (.string [97]) (.lit (.int .i64 a)), []⟩) :=
    ask_new (by show Maps.has ((DataW.map []).put (.string [98]) (.lit (.int .i64 b))) _ = false; rw [has_put_other ne_ba]; rfl) (by rw [find_a]; exact val_text ha)
  have q3 : evalS (findV (abV a b)) (.chg [97] ⟨9, 76, none, false⟩ (.name [98])) ⟨.map [], []⟩ = .ok (wrap64 (a + b), ⟨((DataW.map []).put (.string [98]) (.lit (.int .i64 b))).put (.string [97]) (.lit (.int .i64 a)), []⟩) := by
    rw [evalS, q1]
    simp only []
    rw [q2]
    simp only []
    rw [ap_plain rfl]
    rfl
  have q4 := ev_set (s := [97]) q3
  have hm : IsMap (((DataW.map [] : DataW Unit).put (.string [98]) (.lit (.int .i64 b))).put (.string [97]) (.lit (.int .i64 a))) := (isMap_empty.put _ _).put _ _
  have q5 : evalS (findV (abV a b)) (.name [97]) (setS [97] (wrap64 (a + b)) ⟨((DataW.map []).put (.string [98]) (.lit (.int .i64 b))).put (.string [97]) (.lit (.int .i64 a)), []⟩) = .ok (wrap64 (a + b), setS [97] (wrap64 (a + b)) ⟨((DataW.map []).put (.string [98]) (.lit (.int .i64 b))).put (.string [97]) (.lit (.int .i64 a)), []⟩) :=
    ask_old (has_put_same hm (keyS _) _) (atKey_put_same hm (keyS _) _ _)
  rw [ev_op q4 rfl q5, ap_plain rfl]
  show Except.ok (wrap64 (wrap64 (a + b) - wrap64 (a + b)), _) = _
  rw [wrap_self]
  rfl
theorem set3 {a b : Int} (ha : I64 a) (hb : I64 b) : evalL (abV a b) setL3 = .ok (b, [(if a != 0 then [120] else [121], textL b)]) := by
  rw [evalL_of (by decide) (by decide) (show readS setL3 = some (.choice (.name [97]) (.set [120] (.name [98])) (.set [121] (.name [98]))) by kernel_rfl)]
  have hy := ev_set (s := [120]) (e_b1 (a := a) [] hb)
  have hz := ev_set (s := [121]) (e_b1 (a := a) [] hb)
  rw [evalS, e_a0 [] ha]
  simp only []
  rcases Bool.eq_false_or_eq_true (a != 0) with h | h
  · rw [h, if_pos rfl, if_pos rfl, hy]
    rfl
  · rw [h, if_neg (by simp), if_neg (by simp), hz]
    rfl
theorem set4 (a b : Int) : evalL (abV a b) setL4 = .ok (1, []) := by
  rw [evalL_of (by decide) (by decide) (show readS setL4 = some (.op ⟨1, 60, some 62, false⟩ (.num 1) (.set [120] (.op ⟨10, 79, none, true⟩ (.num 1) (.num 0)))) by kernel_rfl)]
  rfl

end Go.Proofs.YtlbpeknncakfeaaGreatDoor

/-
  An expression, the function value that stands for it, and the functions that make such values.
-/
import Derived.Test.YtlbpeknncakfeaaGreatDoorRd
namespace Go.Proofs.YtlbpeknncakfeaaGreatDoor
open Go.RowKit Go.Maps

/-- An expression. -/
inductive E where
  | num (n : Int)
  | name (s : List UInt8)
  | sign (k : Nat) (e : E)
  | op (o : Opr) (a b : E)
  | choice (c y n : E)
  | set (s : List UInt8) (e : E)
  | chg (s : List UInt8) (o : Opr) (e : E)

def at0 (b : Nat) : Value := .pointer (some ⟨b, 0, none⟩)
def clo (k : Nat) (caps : Array Value) : Value := .func (.func k) #[] caps
def FnV (v : Value) : Prop := v = .nilFunc ∨ ∃ k caps, v = clo k caps
def OprOk (o : Opr) : Prop := o ∈ opsT.map (·.2)

/-- A block of the expression's own. -/
def Own1 (lo hi : Nat) (w : World) (b : Nat) (t : TypeId) (cs : Array Value) : Prop := lo ≤ b ∧ b < hi ∧ Blk w b t cs

/-- The function value v, whose variables lie in blocks from lo to below hi, is the expression. -/
def Rep (lo hi : Nat) (w : World) : E → Value → Prop
  | .num n, v => ∃ b, Own1 lo hi w b 3 #[.int .i64 n] ∧ (0 ≤ n ∧ n ≤ 9223372036854775807) ∧ v = clo 151 #[at0 b]
  | .name s, v => ∃ b, Own1 lo hi w b 9 #[.string (BA s)] ∧ s.length ≤ 100000 ∧ v = clo 150 #[at0 b]
  | .sign k e, v => ∃ b1 b2 v1, Own1 lo hi w b1 55 #[v1] ∧ Own1 lo hi w b2 102 #[fnV k] ∧ Rep lo hi w e v1 ∧ (81 ≤ k ∧ k ≤ 84) ∧ v = clo 146 #[at0 b1, at0 b2]
  | .op o x y, v => ∃ b1 b2 b3 v1 v2, Own1 lo hi w b1 55 #[v1] ∧ Own1 lo hi w b2 101 o.cells ∧ Own1 lo hi w b3 55 #[v2] ∧ Rep lo hi w x v1 ∧ Rep lo hi w y v2 ∧ OprOk o ∧ v = clo 142 #[at0 b1, at0 b2, at0 b3]
  | .choice c y n, v => ∃ b1 b2 b3 v1 v2 v3, Own1 lo hi w b1 55 #[v1] ∧ Own1 lo hi w b2 55 #[v2] ∧ Own1 lo hi w b3 55 #[v3] ∧ Rep lo hi w c v1 ∧ Rep lo hi w y v2 ∧ Rep lo hi w n v3 ∧ v = clo 133 #[at0 b1, at0 b2, at0 b3]
  | .set s e, v => ∃ b1 b2 v1, Own1 lo hi w b1 55 #[v1] ∧ Own1 lo hi w b2 9 #[.string (BA s)] ∧ s.length ≤ 100000 ∧ Rep lo hi w e v1 ∧ v = clo 113 #[at0 b1, at0 b2]
  | .chg s o e, v => ∃ b1 b2 b3 v1, Own1 lo hi w b1 55 #[v1] ∧ Own1 lo hi w b2 9 #[.string (BA s)] ∧ Own1 lo hi w b3 101 o.cells ∧ s.length ≤ 100000 ∧ OprOk o ∧ Rep lo hi w e v1 ∧ v = clo 115 #[at0 b1, at0 b2, at0 b3]

theorem Own1.mono {lo hi hi' : Nat} {w w' : World} {b : Nat} {t : TypeId} {cs : Array Value} (h : Own1 lo hi w b t cs) (hk : ∀ b, lo ≤ b → b < hi → w'.heap[b]? = w.heap[b]?) (hh : hi ≤ hi') : Own1 lo hi' w' b t cs :=
  ⟨h.1, Nat.lt_of_lt_of_le h.2.1 hh, (hk b h.1 h.2.1).trans h.2.2⟩
theorem Rep.mono {lo hi hi' : Nat} {w w' : World} (hk : ∀ b, lo ≤ b → b < hi → w'.heap[b]? = w.heap[b]?) (hh : hi ≤ hi') : ∀ {x : E} {v : Value}, Rep lo hi w x v → Rep lo hi' w' x v
  | .num _, _, ⟨b, h1, h2⟩ => ⟨b, h1.mono hk hh, h2⟩
  | .name _, _, ⟨b, h1, h2⟩ => ⟨b, h1.mono hk hh, h2⟩
  | .sign _ _, _, ⟨b1, b2, v1, h1, h2, h3, h4⟩ => ⟨b1, b2, v1, h1.mono hk hh, h2.mono hk hh, Rep.mono hk hh h3, h4⟩
  | .op _ _ _, _, ⟨b1, b2, b3, v1, v2, h1, h2, h3, h4, h5, h6⟩ => ⟨b1, b2, b3, v1, v2, h1.mono hk hh, h2.mono hk hh, h3.mono hk hh, Rep.mono hk hh h4, Rep.mono hk hh h5, h6⟩
  | .choice _ _ _, _, ⟨b1, b2, b3, v1, v2, v3, h1, h2, h3, h4, h5, h6, h7⟩ => ⟨b1, b2, b3, v1, v2, v3, h1.mono hk hh, h2.mono hk hh, h3.mono hk hh, Rep.mono hk hh h4, Rep.mono hk hh h5, Rep.mono hk hh h6, h7⟩
  | .set _ _, _, ⟨b1, b2, v1, h1, h2, h3, h4, h5⟩ => ⟨b1, b2, v1, h1.mono hk hh, h2.mono hk hh, h3, Rep.mono hk hh h4, h5⟩
  | .chg _ _ _, _, ⟨b1, b2, b3, v1, h1, h2, h3, h4, h5, h6, h7⟩ => ⟨b1, b2, b3, v1, h1.mono hk hh, h2.mono hk hh, h3.mono hk hh, h4, h5, Rep.mono hk hh h6, h7⟩
theorem Rep.grown {lo rb : Nat} {w w' : World} (hg : w.grownBy w' (some rb)) (hr : rb < lo) {x : E} {v : Value} (h : Rep lo w.heap.size w x v) : Rep lo w'.heap.size w' x v :=
  Rep.mono (fun b h1 h2 => hg.block b h2 (by simp; omega)) hg.size h
theorem Rep.grown0 {lo : Nat} {w w' : World} (hg : w.grownBy w' none) {x : E} {v : Value} (h : Rep lo w.heap.size w x v) : Rep lo w'.heap.size w' x v :=
  Rep.mono (fun b _ h2 => hg.block b h2 (by simp)) hg.size h
theorem alloc_grown (w : World) (o : Obj) : w.grownBy (w.alloc o) none := World.grownBy_alloc w o none
theorem Own1.new {lo hi : Nat} {w : World} (t : TypeId) (cs : Array Value) (h : lo ≤ w.heap.size) (hh : w.heap.size < hi) : Own1 lo hi (w.alloc (.cells cs t)) w.heap.size t cs := ⟨h, hh, Blk.new w t cs⟩
theorem Own1.alloc {lo hi : Nat} {w : World} {b : Nat} {t : TypeId} {cs : Array Value} (h : Own1 lo hi w b t cs) (o : Obj) : Own1 lo hi (w.alloc o) b t cs := ⟨h.1, h.2.1, h.2.2.alloc o⟩

theorem constant_any (n : Int) (w : World) (hn : 0 ≤ n ∧ n ≤ 9223372036854775807) : Calls Tryz.prog 149 #[.int .i64 n] w fun e w' => ∃ v, e = .returned v ∧ FnV v ∧ w.grownBy w' none ∧ ∀ lo, lo ≤ w.heap.size → Rep lo w'.heap.size w' (.num n) v := by
  go_enter Tryz.func149, Tryz.ntmps149
  go_wp2
  go_ret
  exact ⟨_, rfl, .inr ⟨_, _, rfl⟩, alloc_grown _ _, fun lo hl => ⟨w.heap.size, Own1.new _ _ hl (by simp), hn, rfl⟩⟩

theorem named_any (s : List UInt8) (w : World) (hs : s.length ≤ 100000) : Calls Tryz.prog 148 #[.string (BA s)] w fun e w' => ∃ v, e = .returned v ∧ FnV v ∧ w.grownBy w' none ∧ ∀ lo, lo ≤ w.heap.size → Rep lo w'.heap.size w' (.name s) v := by
  go_enter Tryz.func148, Tryz.ntmps148
  go_wp2
  go_ret
  exact ⟨_, rfl, .inr ⟨_, _, rfl⟩, alloc_grown _ _, fun lo hl => ⟨w.heap.size, Own1.new _ _ hl (by simp), hs, rfl⟩⟩

theorem size1 (w : World) (o : Obj) : (w.alloc o).heap.size = w.heap.size + 1 := by simp
theorem Blk.new1 (w : World) (o : Obj) (t : TypeId) (cs : Array Value) : Blk ((w.alloc o).alloc (.cells cs t)) (w.heap.size + 1) t cs := by
  have := Blk.new (w.alloc o) t cs
  rw [size1] at this
  exact this
theorem Blk.new2 (w : World) (o o' : Obj) (t : TypeId) (cs : Array Value) : Blk (((w.alloc o).alloc o').alloc (.cells cs t)) (w.heap.size + 1 + 1) t cs := by
  have := Blk.new1 (w.alloc o) o' t cs
  rw [size1] at this
  exact this
theorem grown2 (w : World) (o o' : Obj) : w.grownBy ((w.alloc o).alloc o') none := (alloc_grown _ _).trans (alloc_grown _ _)
theorem grown3 (w : World) (o o' o'' : Obj) : w.grownBy (((w.alloc o).alloc o').alloc o'') none := (grown2 _ _ _).trans (alloc_grown _ _)
theorem sz2 (w : World) (o o' : Obj) : ((w.alloc o).alloc o').heap.size = w.heap.size + 2 := by simp
theorem sz3 (w : World) (o o' o'' : Obj) : (((w.alloc o).alloc o').alloc o'').heap.size = w.heap.size + 3 := by simp

theorem turning_any (k : Nat) (v1 : Value) (hv : FnV v1) (w : World) (hk : 81 ≤ k ∧ k ≤ 84) : Calls Tryz.prog 140 #[.func (.func k) #[] #[], v1] w fun e w' => ∃ v, e = .returned v ∧ FnV v ∧ w.grownBy w' none ∧
    ∀ lo x, lo ≤ w.heap.size → Rep lo w.heap.size w x v1 → Rep lo w'.heap.size w' (.sign k x) v := by
  rcases hv with rfl | ⟨kk, caps, rfl⟩
  all_goals
    try unfold clo
    go_enter Tryz.func140, Tryz.ntmps140
    go_wp2
    go_ret
    refine ⟨_, rfl, .inr ⟨_, _, rfl⟩, grown2 _ _ _, fun lo x hl hr => ⟨w.heap.size + 1, w.heap.size, _, ⟨by omega, by rw [sz2]; omega, Blk.new1 _ _ _ _⟩, ⟨hl, by rw [sz2]; omega, (Blk.new _ _ _).alloc _⟩, hr.grown0 (grown2 _ _ _), hk, rfl⟩⟩

theorem setting_any (s : List UInt8) (hs : s.length ≤ 100000) (v1 : Value) (hv : FnV v1) (w : World) : Calls Tryz.prog 88 #[.string (BA s), v1] w fun e w' => ∃ v, e = .returned v ∧ FnV v ∧ w.grownBy w' none ∧
    ∀ lo x, lo ≤ w.heap.size → Rep lo w.heap.size w x v1 → Rep lo w'.heap.size w' (.set s x) v := by
  rcases hv with rfl | ⟨kk, caps, rfl⟩
  all_goals
    try unfold clo
    go_enter Tryz.func88, Tryz.ntmps88
    go_wp2
    go_ret
    refine ⟨_, rfl, .inr ⟨_, _, rfl⟩, grown2 _ _ _, fun lo x hl hr => ⟨w.heap.size + 1, w.heap.size, _, ⟨by omega, by rw [sz2]; omega, Blk.new1 _ _ _ _⟩, ⟨hl, by rw [sz2]; omega, (Blk.new _ _ _).alloc _⟩, hs, hr.grown0 (grown2 _ _ _), rfl⟩⟩

theorem enoughV_cases (o : Opr) : enoughV o.enough = .nilFunc ∨ ∃ k, enoughV o.enough = .func (.func k) #[] #[] := by
  cases o.enough with
  | none => exact .inl rfl
  | some k => exact .inr ⟨k, rfl⟩

theorem joining_any (o : Opr) (ho : OprOk o) (v1 v2 : Value) (hv1 : FnV v1) (hv2 : FnV v2) (w : World) : Calls Tryz.prog 132 #[.agg o.cells, v1, v2] w fun e w' => ∃ v, e = .returned v ∧ FnV v ∧ w.grownBy w' none ∧
    ∀ lo x y, lo ≤ w.heap.size → Rep lo w.heap.size w x v1 → Rep lo w.heap.size w y v2 → Rep lo w'.heap.size w' (.op o x y) v := by
  obtain ⟨cs, hcs⟩ : ∃ cs, cs = o.cells := ⟨_, rfl⟩
  have HC := hide hcs
  rw [← hcs]
  clear hcs
  rcases hv1 with rfl | ⟨k1, caps1, rfl⟩
  all_goals rcases hv2 with rfl | ⟨k2, caps2, rfl⟩
  all_goals
    try unfold clo
    go_enter Tryz.func132, Tryz.ntmps132
    go_wp2
    go_ret
    refine ⟨_, rfl, .inr ⟨_, _, rfl⟩, grown3 _ _ _ _, fun lo x y hl hr1 hr2 => ⟨w.heap.size + 1, w.heap.size, w.heap.size + 1 + 1, _, _, ⟨by omega, by rw [sz3]; omega, (Blk.new1 _ _ _ _).alloc _⟩, ⟨hl, by rw [sz3]; omega, ?_⟩, ⟨by omega, by rw [sz3]; omega, Blk.new2 _ _ _ _ _⟩, hr1.grown0 (grown3 _ _ _ _), hr2.grown0 (grown3 _ _ _ _), ho, rfl⟩⟩
    rw [← unhide HC]
    exact ((Blk.new _ _ _).alloc _).alloc _

theorem choosing_any (v1 v2 v3 : Value) (hv1 : FnV v1) (hv2 : FnV v2) (hv3 : FnV v3) (w : World) : Calls Tryz.prog 112 #[v1, v2, v3] w fun e w' => ∃ v, e = .returned v ∧ FnV v ∧ w.grownBy w' none ∧
    ∀ lo x y z, lo ≤ w.heap.size → Rep lo w.heap.size w x v1 → Rep lo w.heap.size w y v2 → Rep lo w.heap.size w z v3 → Rep lo w'.heap.size w' (.choice x y z) v := by
  rcases hv1 with rfl | ⟨k1, caps1, rfl⟩
  all_goals rcases hv2 with rfl | ⟨k2, caps2, rfl⟩
  all_goals rcases hv3 with rfl | ⟨k3, caps3, rfl⟩
  all_goals
    try unfold clo
    go_enter Tryz.func112, Tryz.ntmps112
    go_wp2
    go_ret
    exact ⟨_, rfl, .inr ⟨_, _, rfl⟩, grown3 _ _ _ _, fun lo x y z hl hr1 hr2 hr3 => ⟨w.heap.size, w.heap.size + 1, w.heap.size + 1 + 1, _, _, _, ⟨hl, by rw [sz3]; omega, ((Blk.new _ _ _).alloc _).alloc _⟩, ⟨by omega, by rw [sz3]; omega, (Blk.new1 _ _ _ _).alloc _⟩, ⟨by omega, by rw [sz3]; omega, Blk.new2 _ _ _ _ _⟩, hr1.grown0 (grown3 _ _ _ _), hr2.grown0 (grown3 _ _ _ _), hr3.grown0 (grown3 _ _ _ _), rfl⟩⟩

theorem changing_any (s : List UInt8) (hs : s.length ≤ 100000) (o : Opr) (ho : OprOk o) (v1 : Value) (hv1 : FnV v1) (w : World) : Calls Tryz.prog 89 #[.string (BA s), .agg o.cells, v1] w fun e w' => ∃ v, e = .returned v ∧ FnV v ∧ w.grownBy w' none ∧
    ∀ lo x, lo ≤ w.heap.size → Rep lo w.heap.size w x v1 → Rep lo w'.heap.size w' (.set s (.chg s o x)) v := by
  obtain ⟨cs, hcs⟩ : ∃ cs, cs = o.cells := ⟨_, rfl⟩
  have HC := hide hcs
  rw [← hcs]
  clear hcs
  rcases hv1 with rfl | ⟨k1, caps1, rfl⟩
  all_goals
    try unfold clo
    go_enter Tryz.func89, Tryz.ntmps89
    go_wp2_with fail
    refine (setting_any s hs _ (.inr ⟨_, _, rfl⟩) _).mono ?_
    rintro e w1 ⟨v, rfl, hv, g1, hr⟩
    have HR := hide hr
    clear hr
    go_wp2
    go_ret
    refine ⟨v, rfl, hv, (grown3 _ _ _ _).trans g1, fun lo x hl hrx => unhide HR lo _ (by rw [sz3]; omega) ?_⟩
    refine ⟨w.heap.size + 1 + 1, w.heap.size, w.heap.size + 1, _, ⟨by omega, by rw [sz3]; omega, Blk.new2 _ _ _ _ _⟩, ⟨hl, by rw [sz3]; omega, ((Blk.new _ _ _).alloc _).alloc _⟩, ⟨by omega, by rw [sz3]; omega, ?_⟩, hs, ho, hrx.grown0 (grown3 _ _ _ _), rfl⟩
    rw [← unhide HC]
    exact (Blk.new1 _ _ _ _).alloc _

end Go.Proofs.YtlbpeknncakfeaaGreatDoor

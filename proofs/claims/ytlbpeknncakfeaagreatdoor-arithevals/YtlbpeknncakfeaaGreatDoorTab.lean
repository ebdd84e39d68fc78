/-
  The two tables of operators: what 'allOperators' answers.
-/
import Derived.Test.YtlbpeknncakfeaaGreatDoorBlk
namespace Go.Proofs.YtlbpeknncakfeaaGreatDoor
open Go.RowKit Go.Maps

/-- An element is read as itself. -/
def itself (v : Value) : Option (DataW Value × List MemPlace) := some (.held v, [])

theorem wpList_insert_in {H : Type} {P : Program} (w : World) {ops : Array Oper} {rest : List Oper} {o : Oper} {a : Act} {Q : Exit → Act → World → Prop} (hg : o.guard = none) (m x v : Operand) (t : TypeId) (hop : o.op = Op.insert t m x v)
    (k e : TypeId) (K : Keyed P k) (ht : P.underlying t = some (.map k e)) (R : Value → Option (DataW H × List MemPlace)) (b n : Nat) (D : DataW H)
    (hm : a.eval m = .map (some b)) (hown : w.ownsMap P k R b n D) (hn : n < maxLen) (key val : Value) (kl : Lit) (hx : a.eval x = key) (hv : a.eval v = val) (hkey : keyOf P k key = some kl)
    (d : DataW H) (ps : List MemPlace) (hval : R val = some (d, ps))
    (hK : ∀ w', w'.ownsMap P k R b (n + 1) (D.put kl d) → w.mapTurned w' b → wpList P ops Q rest (a.put o.dst undef) w') :
    wpList P ops Q (o :: rest) a w := by
  refine wpList_plain hg fun K' hK' => ?_
  obtain ⟨w', hrun, r1, r2⟩ := hown.store K ht hn hkey hval
  unfold Oper.wp
  simp [execOp, hop, hm, hx, hv, hrun, Result.andThen]
  exact hK' _ _ (hK w' r1 r2)

theorem strKeyed : Keyed Tryz.prog 9 := string_keyed Tryz.underlying9
theorem hk_str (s : ByteArray) (h : s.size ≤ maxLen) : keyOf Tryz.prog 9 (.string s) = some (.string s.data.toList) := WideMaps.keyOf_string_mk Tryz.underlying9 h

/-- An operator: its rank, what it does, what passes its right side over, whether it divides. -/
structure Opr where
  rank : Nat
  fn : Nat
  enough : Option Nat
  div : Bool
deriving DecidableEq
def fnV (k : Nat) : Value := .func (.func k) #[] #[]
def enoughV : Option Nat → Value
  | none => .nilFunc
  | some k => fnV k
def Opr.cells (o : Opr) : Array Value := #[.int .i64 o.rank, fnV o.fn, enoughV o.enough, .bool o.div]

/-- The operators between two sides, and those ahead of one. -/
def opsT : List (ByteArray × Opr) := [
  (⟨#[124, 124]⟩, ⟨1, 60, some 62, false⟩),
  (⟨#[38, 38]⟩, ⟨2, 63, some 64, false⟩),
  (⟨#[124]⟩, ⟨3, 65, none, false⟩),
  (⟨#[94]⟩, ⟨4, 66, none, false⟩),
  (⟨#[38]⟩, ⟨5, 67, none, false⟩),
  (⟨#[61, 61]⟩, ⟨6, 68, none, false⟩),
  (⟨#[33, 61]⟩, ⟨6, 69, none, false⟩),
  (⟨#[60]⟩, ⟨7, 70, none, false⟩),
  (⟨#[60, 61]⟩, ⟨7, 71, none, false⟩),
  (⟨#[62]⟩, ⟨7, 72, none, false⟩),
  (⟨#[62, 61]⟩, ⟨7, 73, none, false⟩),
  (⟨#[60, 60]⟩, ⟨8, 74, none, false⟩),
  (⟨#[62, 62]⟩, ⟨8, 75, none, false⟩),
  (⟨#[43]⟩, ⟨9, 76, none, false⟩),
  (⟨#[45]⟩, ⟨9, 77, none, false⟩),
  (⟨#[42]⟩, ⟨10, 78, none, false⟩),
  (⟨#[47]⟩, ⟨10, 79, none, true⟩),
  (⟨#[37]⟩, ⟨10, 80, none, true⟩)]
def signsT : List (ByteArray × Nat) := [(⟨#[43]⟩, 81), (⟨#[45]⟩, 82), (⟨#[33]⟩, 83), (⟨#[126]⟩, 84)]
def opsL : List (ByteArray × Value) := opsT.map fun p => (p.1, .agg p.2.cells)
def signsL : List (ByteArray × Value) := signsT.map fun p => (p.1, fnV p.2)

/-- The map of a list's first entries. -/
def Dl (L : List (ByteArray × Value)) (i : Nat) : DataW Value := (L.take i).foldl (fun D p => D.put (.string p.1.data.toList) (.held p.2)) (.map [])
theorem Dl_succ {L : List (ByteArray × Value)} {i : Nat} {p : ByteArray × Value} (h : L[i]? = some p) : Dl L (i + 1) = (Dl L i).put (.string p.1.data.toList) (.held p.2) := by
  unfold Dl
  obtain ⟨hi, rfl⟩ := List.getElem?_eq_some_iff.1 h
  rw [← List.take_append_getElem hi, List.foldl_append]
  rfl

theorem wpList_insert_L (L : List (ByteArray × Value)) {w : World} {ops : Array Oper} {rest : List Oper} {o : Oper} {a : Act} {Q : Exit → Act → World → Prop} (J : World → Prop) (b i : Nat)
    (h : w.ownsMap Tryz.prog 9 itself b i (Dl L i) ∧ J w) (hJ : ∀ x y, World.mapTurned x y b → J x → J y) (hg : o.guard = none) (m x v : Operand) (t e : TypeId) (hop : o.op = Op.insert t m x v)
    (ht : Tryz.prog.underlying t = some (.map 9 e)) (hm : a.eval m = .map (some b)) (hn : i < maxLen) (key : ByteArray) (val : Value) (hL : L[i]? = some (key, val)) (hx : a.eval x = .string key) (hv : a.eval v = val) (hkey : key.size ≤ maxLen)
    (hK : ∀ w', (w'.ownsMap Tryz.prog 9 itself b (i + 1) (Dl L (i + 1)) ∧ J w') → wpList Tryz.prog ops Q rest (a.put o.dst undef) w') :
    wpList Tryz.prog ops Q (o :: rest) a w :=
  wpList_insert_in w hg m x v t hop 9 e strKeyed ht itself b i (Dl L i) hm h.1 hn _ val _ hx hv (hk_str key hkey) (.held val) [] rfl (fun w' h1 h2 => hK w' ⟨by rw [Dl_succ hL]; exact h1, hJ w w' h2 h.2⟩)

structure J1 (w0 : World) (w : World) : Prop where
  blk : Blk w w0.heap.size 85 #[.map none, .map none]
  below : Below w0.heap.size w0 w
  size : w0.heap.size + 2 ≤ w.heap.size
theorem turned_size {x y : World} {b : Nat} (ht : World.mapTurned x y b) : x.heap.size ≤ y.heap.size := ht.grown.size
theorem J1.turned {w0 x y : World} {b : Nat} (hb : w0.heap.size < b) (ht : World.mapTurned x y b) (h : J1 w0 x) : J1 w0 y :=
  ⟨h.blk.kept ht.grown (by simp; omega), h.below.grown ht.grown (by have := h.size; omega) (by intro k hk; cases hk; omega), Nat.le_trans h.size (turned_size ht)⟩

def J2 (w0 : World) (w : World) : Prop := J1 w0 w ∧ w.ownsMap Tryz.prog 9 itself (w0.heap.size + 1) 18 (Dl opsL 18)
/-- The two tables, in blocks b1 and b2. -/
structure Tabs (w : World) (b1 b2 : Nat) : Prop where
  ops : w.ownsMap Tryz.prog 9 itself b1 18 (Dl opsL 18)
  signs : w.ownsMap Tryz.prog 9 itself b2 4 (Dl signsL 4)
theorem Tabs.kept {w w' : World} {row : Option Nat} {b1 b2 : Nat} (h : Tabs w b1 b2) (hg : w.grownBy w' row) (h1 : some b1 ≠ row) (h2 : some b2 ≠ row) : Tabs w' b1 b2 := ⟨h.ops.kept hg h1, h.signs.kept hg h2⟩

theorem results_tab {fn : Func} {t : Tmp} (h : fn.results = #[.cell t 85]) (tmps : Array Value) (w : World) (b : Nat) (x0 x1 : Value) (ht : tmps.getD t undef = .pointer (some ⟨b, 0, none⟩))
    (h0 : w.cell? ⟨b, 0, none⟩ = some x0) (h1 : w.cell? ⟨b, 1, none⟩ = some x1) :
    (results fn tmps).run Tryz.prog w = .ok (.agg #[x0, x1]) w := by
  have ht' : tmps[t]?.getD undef = .pointer (some ⟨b, 0, none⟩) := by simpa using ht
  unfold results
  rw [h]
  simp [ht', go_sem, h0, h1]

set_option maxRecDepth 20000 in
set_option maxHeartbeats 4000000 in
theorem ops_any (w : World) : Calls Tryz.prog 41 #[] w fun e w' => ∃ b1 b2, e = .returned (.agg #[.map (some b1), .map (some b2)]) ∧ Tabs w' b1 b2 ∧ Below w.heap.size w w' ∧ w.heap.size ≤ b1 ∧ w.heap.size ≤ b2 := by
  have hmm := @run_makeMap Tryz.prog
  have h0 : ((w.alloc (.cells #[.map none, .map none] 85)).alloc (.map #[] 0)).ownsMap Tryz.prog 9 itself (w.heap.size + 1) 0 (Dl opsL 0) ∧ J1 w ((w.alloc (.cells #[.map none, .map none] 85)).alloc (.map #[] 0)) := by
    refine ⟨?_, ?_⟩
    · have := World.ownsMap_made (w.alloc (.cells #[.map none, .map none] 85)) Tryz.prog 9 itself
      rw [show (w.alloc (.cells #[.map none, .map none] 85)).heap.size = w.heap.size + 1 by simp] at this
      exact this
    · exact ⟨(Blk.new w 85 _).alloc _, ((Below.refl _ w).alloc (Nat.le_refl _) _).alloc (by simp) _, by simp⟩
  go_enter Tryz.func41, Tryz.ntmps41
  go_wp2_with (refine wpList_insert_L opsL (J1 w) (w.heap.size + 1) _ (by assumption) (fun _ _ => J1.turned (by omega)) rfl _ _ _ _ _ rfl (by first | exact Tryz.underlying82) rfl (by decide) _ _ rfl rfl rfl (by decide) ?_; intro w1 hw1)
  obtain ⟨ho, hj⟩ := hw1
  have h2 : (w1.alloc (.map #[] 0)).ownsMap Tryz.prog 9 itself w1.heap.size 0 (Dl signsL 0) ∧ (J2 w) (w1.alloc (.map #[] 0)) := by
    refine ⟨World.ownsMap_made w1 Tryz.prog 9 itself, ⟨hj.blk.alloc _, hj.below.alloc (by have := hj.size; omega) _, by have := hj.size; simp; omega⟩, ho.alloc _⟩
  have hsz := hj.size
  have hbl : w.heap.size < w1.heap.size := by omega
  have hJ2 : ∀ x y, World.mapTurned x y w1.heap.size → (J2 w) x → (J2 w) y :=
    fun x y ht hx => ⟨J1.turned hbl ht hx.1, hx.2.kept ht.grown (by simp; omega)⟩
  clear ho hj h0 hsz
  obtain ⟨w2, hrun, r1, r2⟩ := h2.1.store strKeyed Tryz.underlying83 (by decide) (hk_str ⟨#[43]⟩ (by decide)) (show itself (fnV 81) = some (.held (fnV 81), []) from rfl)
  have hw2 : w2.ownsMap Tryz.prog 9 itself w1.heap.size (0 + 1) (Dl signsL (0 + 1)) ∧ J2 w w2 := ⟨r1, hJ2 _ _ r2 h2.2⟩
  have hrun' : (Instr.mapUpdate 83 (.map (some w1.heap.size)) (.string ⟨#[43]⟩) (.func (.func 81) #[] #[])).run Tryz.prog (w1.alloc (.map #[] 0)) = .ok () w2 := hrun
  rw [hrun']
  clear r1 r2 h2 hw1 hrun hrun'
  go_wp2_with (refine wpList_insert_L signsL (J2 w) w1.heap.size _ (by assumption) hJ2 rfl _ _ _ _ _ rfl (by first | exact Tryz.underlying83) rfl (by decide) _ _ rfl rfl rfl (by decide) ?_; intro w2 hw2; have c0 : w2.cell? ⟨w.heap.size, 0, none⟩ = some (.map none) := hw2.2.1.blk.cell 0 rfl; have c1 : w2.cell? ⟨w.heap.size, 1, none⟩ = some (.map none) := hw2.2.1.blk.cell 1 rfl; have f0 := hw2.2.1.blk.frozen 0; have f1 := hw2.2.1.blk.frozen 1)
  obtain ⟨ho2, hj2, ho1⟩ := hw2
  refine bodyPost_ret (results_tab rfl _ _ w.heap.size (.map (some (w.heap.size + 1))) (.map (some w1.heap.size)) rfl (by go_simp) (by go_simp)) rfl ?_
  have g : w2.grownBy ((w2.setCell ⟨w.heap.size, 0, none⟩ (.map (some (w.heap.size + 1)))).setCell ⟨w.heap.size, 1, none⟩ (.map (some w1.heap.size))) (some w.heap.size) := World.grownBy.trans (grown_setCell w2 ⟨w.heap.size, 0, none⟩ _) (grown_setCell _ ⟨w.heap.size, 1, none⟩ _)
  exact ⟨_, _, rfl, ⟨ho1.kept g (by simp), ho2.kept g (by simp; omega)⟩, hj2.below.grown g (by have := hj2.size; omega) (by intro k hk; cases hk; omega), by omega, by omega⟩

end Go.Proofs.YtlbpeknncakfeaaGreatDoor

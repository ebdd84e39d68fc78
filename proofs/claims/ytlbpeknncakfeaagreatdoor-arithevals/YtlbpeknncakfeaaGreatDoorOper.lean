/-
  The operator at the front: the reader's 'operator'.
-/
import Derived.Test.YtlbpeknncakfeaaGreatDoorLook
import Derived.RegionIn
import Derived.Laws.EntriesVeiled
namespace Go.Proofs.YtlbpeknncakfeaaGreatDoor
open Go.RowKit Go.Maps
attribute [local irreducible] findOp

def opUpTo (l : List UInt8) : Nat → Option (Opr × Nat)
  | 0 => none
  | n + 1 => match findOp (l.take (n + 1)) with
    | some o => some (o, n + 1)
    | none => opUpTo l n
/-- The longest operator at a list's front, and how many bytes it has. -/
def opAt (l : List UInt8) : Option (Opr × Nat) := opUpTo l (min 2 l.length)
theorem opUpTo_succ (l : List UInt8) (n : Nat) : opUpTo l (n + 1) = match findOp (l.take (n + 1)) with
    | some o => some (o, n + 1)
    | none => opUpTo l n := rfl
def opEnd (l : List UInt8) (e : Ending) : Prop := match opAt l with
  | some (o, n) => e = .returned (.tuple #[.agg o.cells, .string (BA (l.take n))])
  | none => e = .returned (.tuple #[.agg #[.int .i64 0, .nilFunc, .nilFunc, .bool false], .string (BA [])])

theorem results_op {fn : Func} {t u : Tmp} (h : fn.results = #[.cell t 101, .tmp u]) (tmps : Array Value) (w : World) (b : Nat) (x0 x1 x2 x3 : Value) (ht : tmps.getD t undef = .pointer (some ⟨b, 0, none⟩))
    (h0 : w.cell? ⟨b, 0, none⟩ = some x0) (h1 : w.cell? ⟨b, 1, none⟩ = some x1) (h2 : w.cell? ⟨b, 2, none⟩ = some x2) (h3 : w.cell? ⟨b, 3, none⟩ = some x3) :
    (results fn tmps).run Tryz.prog w = .ok (.tuple #[.agg #[x0, x1, x2, x3], tmps.getD u undef]) w := by
  have ht' : tmps[t]?.getD undef = .pointer (some ⟨b, 0, none⟩) := by simpa using ht
  unfold results
  rw [h]
  simp [ht', go_sem, h0, h1, h2, h3]

theorem extract_take (l : List UInt8) (n : Nat) : (BA l).extract 0 n = BA (l.take n) := by
  unfold BA
  apply ByteArray.ext
  rw [ByteArray.data_extract]
  simp
def z101 : Obj := .cells #[.int .i64 0, .nilFunc, .nilFunc, .bool false] 101
theorem Tabs.drew {w : World} {b1 b2 : Nat} (h : Tabs w b1 b2) : Tabs w.drew b1 b2 := ⟨h.ops.drew, h.signs.drew⟩
theorem opUpTo_some {l : List UInt8} {n : Nat} {o : Opr} (h0 : 0 < n) (h : findOp (l.take n) = some o) : opUpTo l n = some (o, n) := by
  obtain ⟨m, rfl⟩ : ∃ m, n = m + 1 := ⟨n - 1, by omega⟩
  rw [opUpTo_succ, h]
theorem opUpTo_none {l : List UInt8} {n : Nat} (h0 : 0 < n) (h : findOp (l.take n) = none) : opUpTo l n = opUpTo l (n - 1) := by
  obtain ⟨m, rfl⟩ : ∃ m, n = m + 1 := ⟨n - 1, by omega⟩
  rw [opUpTo_succ, h]; rfl

theorem grown_new {a b c : World} {j : Nat} (h : a.grownBy b none) (k : b.grownBy c (some j)) (hj : a.heap.size ≤ j) : a.grownBy c none :=
  ⟨k.os.trans h.os, k.tape.trans h.tape, k.output.trans h.output, Nat.le_trans h.size k.size, fun i hi _ => (k.block i (Nat.lt_of_lt_of_le hi h.size) (by simp; omega)).trans (h.block i hi (by simp))⟩
theorem grown_drew' {a b : World} {row : Option Nat} (h : a.grownBy b row) : a.grownBy b.drew row := ⟨h.os, h.tape, h.output, h.size, h.block⟩
theorem grown_new' {a b c : World} {j : Nat} {row : Option Nat} (h : a.grownBy b row) (k : b.grownBy c (some j)) (hj : a.heap.size ≤ j) : a.grownBy c row :=
  ⟨k.os.trans h.os, k.tape.trans h.tape, k.output.trans h.output, Nat.le_trans h.size k.size, fun i hi hr => (k.block i (Nat.lt_of_lt_of_le hi h.size) (by simp; omega)).trans (h.block i hi hr)⟩
theorem Rd.keptBut {w w' : World} {rb b1 b2 j : Nat} {l : List UInt8} {f : Bool} {t : TypeId} {cs : Array Value} (h : Rd w rb b1 b2 l f) (hb : Blk w j t cs) (hj : j ≠ rb) (hg : w.grownBy w' (some j)) : Rd w' rb b1 b2 l f :=
  ⟨h.blk.kept hg (by simp; omega), h.tabs.kept hg (by have := map_ne hb h.tabs.ops; simp; omega) (by have := map_ne hb h.tabs.signs; simp; omega), h.len⟩
/-- Four cells of a block, one behind the other. -/
theorem set4_grown (w : World) (b : Nat) (x0 x1 x2 x3 : Value) : w.grownBy ((((w.setCell ⟨b, 0, none⟩ x0).setCell ⟨b, 1, none⟩ x1).setCell ⟨b, 2, none⟩ x2).setCell ⟨b, 3, none⟩ x3) (some b) :=
  World.grownBy.trans (World.grownBy.trans (World.grownBy.trans (grown_setCell _ ⟨b, 0, none⟩ _) (grown_setCell _ ⟨b, 1, none⟩ _)) (grown_setCell _ ⟨b, 2, none⟩ _)) (grown_setCell _ ⟨b, 3, none⟩ _)
set_option maxRecDepth 20000 in
set_option maxHeartbeats 4000000 in
theorem operator_any (rb b1 b2 : Nat) (l : List UInt8) (f : Bool) (w : World) (h : Rd w rb b1 b2 l f) :
    Calls Tryz.prog 131 #[.pointer (some ⟨rb, 0, none⟩)] w fun e w' => opEnd (sk l) e ∧ Rd w' rb b1 b2 (sk l) f ∧ w.grownBy w' (some rb) := by
  have hrb := h.blk.lt
  have H := hide (h.kept (World.grownBy_alloc w (.cells #[.int .i64 0, .nilFunc, .nilFunc, .bool false] 101) none))
  clear h
  go_enter Tryz.func131, Tryz.ntmps131
  go_wp2_with fail
  refine (skip_any rb b1 b2 l f _ (unhide H)).mono ?_
  rintro e w1 ⟨rfl, h1, g1⟩
  have c2 := h1.c2
  have H1 := hide h1
  have G1 := hide g1
  clear h1 g1
  have hb0 : Blk w1 w.heap.size 101 #[.int .i64 0, .nilFunc, .nilFunc, .bool false] := (Blk.new w _ _).kept (unhide G1) (by simp; omega)
  have hlen := (unhide H1).len
  have G2 := hide ((grown_but (World.grownBy_alloc w (.cells #[.int .i64 0, .nilFunc, .nilFunc, .bool false] 101) none) (some rb)).trans (unhide G1))
  have HB0 := hide hb0
  clear hb0 G1 H
  go_wp2_with fail
  go_loopw [4] (fun i wr => ∃ n : Nat, n ≤ 2 ∧ n ≤ (sk l).length ∧ i = .int .i64 n ∧ Hid (opAt (sk l) = opUpTo (sk l) n) ∧ Hid (Rd wr rb b1 b2 (sk l) f) ∧ Hid (Blk wr w.heap.size 101 #[.int .i64 0, .nilFunc, .nilFunc, .bool false]) ∧ Hid (w.grownBy wr (some rb))) (fun i _ => (intOf i).toNat)
  case atStart =>
    exact ⟨min 2 (sk l).length, by omega, by omega, by simp; omega, hide rfl, H1, HB0, G2⟩
  case round =>
    obtain ⟨n, hn2, hnl, rfl, HO, HR, HB, HG⟩ := hrel
    by_cases h0 : 0 < n
    · have c0 := (unhide HR).c0
      have c2 := (unhide HR).c2
      have ha := (unhide HR).kept (World.grownBy_alloc wr (.cells #[.int .i64 0, .nilFunc, .nilFunc, .bool false] 101) none)
      have hz := Blk.new wr 101 #[.int .i64 0, .nilFunc, .nilFunc, .bool false]
      have z0 : (wr.alloc (.cells #[.int .i64 0, .nilFunc, .nilFunc, .bool false] 101)).cell? ⟨wr.heap.size, 0, none⟩ = some (.int .i64 0) := hz.cell 0 rfl
      have z1 : (wr.alloc (.cells #[.int .i64 0, .nilFunc, .nilFunc, .bool false] 101)).cell? ⟨wr.heap.size, 1, none⟩ = some .nilFunc := hz.cell 1 rfl
      have z2 : (wr.alloc (.cells #[.int .i64 0, .nilFunc, .nilFunc, .bool false] 101)).cell? ⟨wr.heap.size, 2, none⟩ = some .nilFunc := hz.cell 2 rfl
      have z3 : (wr.alloc (.cells #[.int .i64 0, .nilFunc, .nilFunc, .bool false] 101)).cell? ⟨wr.heap.size, 3, none⟩ = some (.bool false) := hz.cell 3 rfl
      have y0 := hz.frozen 0
      have y1 := hz.frozen 1
      have y2 := hz.frozen 2
      have y3 := hz.frozen 3
      have d0 := ha.c0
      have d2 := ha.c2
      have htl : ((sk l).take n).length ≤ 100000 := by rw [List.length_take]; omega
      rcases hf : findOp ((sk l).take n) with _ | o
      · have l1 := look_op (unhide HR).tabs.drew _ htl
        have l2 := look_op ha.tabs.drew _ htl
        rw [hf, ← extract_take] at l1 l2
        simp only [opV, Option.isSome_none] at l1 l2
        have HF := hide hf
        clear hf ha hz
        go_wp2_with fail
        go_region
        all_goals clear c0 c2 z0 z1 z2 z3 y0 y1 y2 y3 d0 d2 l1 l2
        all_goals go_wp2
        all_goals
          have g := grown_drew' (World.grownBy_alloc wr (.cells #[.int .i64 0, .nilFunc, .nilFunc, .bool false] 101) none)
          refine ⟨⟨n - 1, by omega, by omega, ?_, hide (by rw [unhide HO]; exact opUpTo_none h0 (unhide HF)), hide ((unhide HR).kept g), hide ((unhide HB).kept g (by simp)), hide ((unhide HG).trans (grown_but g _))⟩, ?_⟩
          · rw [show ((n - 1 : Nat) : Int) = (n : Int) - 1 by omega]
          · simp [intOf]; omega
      · obtain ⟨ev, hev⟩ : ∃ ev, ev = enoughV o.enough := ⟨_, rfl⟩
        have hevc : ev = .nilFunc ∨ ∃ k, ev = .func (.func k) #[] #[] := by rw [hev]; cases o.enough with
          | none => exact .inl rfl
          | some k => exact .inr ⟨k, rfl⟩
        have l1 := look_op (unhide HR).tabs.drew _ htl
        have l2 := look_op ha.tabs.drew _ htl
        rw [hf, ← extract_take] at l1 l2
        simp only [opV, Option.isSome_some, Opr.cells, fnV] at l1 l2
        rw [← hev] at l1 l2
        have HF := hide hf
        have HEV := hide hev
        have hRX := (unhide HR).kept (World.grownBy_alloc wr (.cells #[.int .i64 o.rank, .func (.func o.fn) #[] #[], ev, .bool o.div] 101) none)
        have hBX := (unhide HB).kept (World.grownBy_alloc wr (.cells #[.int .i64 o.rank, .func (.func o.fn) #[] #[], ev, .bool o.div] 101) none) (by simp)
        have HRX := hide hRX
        have HBX := hide hBX
        have x2 := hRX.c2
        have e0 : (wr.alloc (.cells #[.int .i64 o.rank, .func (.func o.fn) #[] #[], ev, .bool o.div] 101)).cell? ⟨w.heap.size, 0, none⟩ = some (.int .i64 0) := hBX.cell 0 rfl
        have e1 : (wr.alloc (.cells #[.int .i64 o.rank, .func (.func o.fn) #[] #[], ev, .bool o.div] 101)).cell? ⟨w.heap.size, 1, none⟩ = some .nilFunc := hBX.cell 1 rfl
        have e2 : (wr.alloc (.cells #[.int .i64 o.rank, .func (.func o.fn) #[] #[], ev, .bool o.div] 101)).cell? ⟨w.heap.size, 2, none⟩ = some .nilFunc := hBX.cell 2 rfl
        have e3 : (wr.alloc (.cells #[.int .i64 o.rank, .func (.func o.fn) #[] #[], ev, .bool o.div] 101)).cell? ⟨w.heap.size, 3, none⟩ = some (.bool false) := hBX.cell 3 rfl
        have f0 := hBX.frozen 0
        have f1 := hBX.frozen 1
        have f2 := hBX.frozen 2
        have f3 := hBX.frozen 3
        clear hf ha hz hev hRX hBX
        rcases hevc with rfl | ⟨kk, rfl⟩
        · go_wp2_with fail
          go_region
          all_goals go_wp2_with fail
          all_goals clear c0 c2 z0 z1 z2 z3 y0 y1 y2 y3 d0 d2 l1 l2
          all_goals go_region
          all_goals go_wp2
          all_goals
            refine bodyPost_ret (results_op rfl _ _ w.heap.size (.int .i64 o.rank) (.func (.func o.fn) #[] #[]) (.nilFunc) (.bool o.div) rfl (by go_simp) (by go_simp) (by go_simp) (by go_simp)) rfl ?_
            have g4 := set4_grown (wr.alloc (.cells #[.int .i64 o.rank, .func (.func o.fn) #[] #[], .nilFunc, .bool o.div] 101)) w.heap.size (.int .i64 o.rank) (.func (.func o.fn) #[] #[]) (.nilFunc) (.bool o.div)
            have g5 := grown_drew' (grown_drew' g4)
            refine ⟨?_, (unhide HRX).keptBut (unhide HBX) (by omega) g5, grown_new' ((unhide HG).trans (World.grownBy_alloc _ _ _)) g5 (Nat.le_refl _)⟩
            unfold opEnd
            rw [unhide HO, opUpTo_some h0 (unhide HF)]
            simp only [Opr.cells, fnV, ← unhide HEV, ← extract_take]
            rfl
        · go_wp2_with fail
          go_region
          all_goals go_wp2_with fail
          all_goals clear c0 c2 z0 z1 z2 z3 y0 y1 y2 y3 d0 d2 l1 l2
          all_goals go_region
          all_goals go_wp2
          all_goals
            refine bodyPost_ret (results_op rfl _ _ w.heap.size (.int .i64 o.rank) (.func (.func o.fn) #[] #[]) (.func (.func kk) #[] #[]) (.bool o.div) rfl (by go_simp) (by go_simp) (by go_simp) (by go_simp)) rfl ?_
            have g4 := set4_grown (wr.alloc (.cells #[.int .i64 o.rank, .func (.func o.fn) #[] #[], .func (.func kk) #[] #[], .bool o.div] 101)) w.heap.size (.int .i64 o.rank) (.func (.func o.fn) #[] #[]) (.func (.func kk) #[] #[]) (.bool o.div)
            have g5 := grown_drew' (grown_drew' g4)
            refine ⟨?_, (unhide HRX).keptBut (unhide HBX) (by omega) g5, grown_new' ((unhide HG).trans (World.grownBy_alloc _ _ _)) g5 (Nat.le_refl _)⟩
            unfold opEnd
            rw [unhide HO, opUpTo_some h0 (unhide HF)]
            simp only [Opr.cells, fnV, ← unhide HEV, ← extract_take]
            rfl
    · have hn0 : n = 0 := by omega
      subst hn0
      have hBX := unhide HB
      have e0 : wr.cell? ⟨w.heap.size, 0, none⟩ = some (.int .i64 0) := hBX.cell 0 rfl
      have e1 : wr.cell? ⟨w.heap.size, 1, none⟩ = some .nilFunc := hBX.cell 1 rfl
      have e2 : wr.cell? ⟨w.heap.size, 2, none⟩ = some .nilFunc := hBX.cell 2 rfl
      have e3 : wr.cell? ⟨w.heap.size, 3, none⟩ = some (.bool false) := hBX.cell 3 rfl
      have f0 := hBX.frozen 0
      have f1 := hBX.frozen 1
      have f2 := hBX.frozen 2
      have f3 := hBX.frozen 3
      clear hBX
      go_wp2
      refine bodyPost_ret (results_op rfl _ _ w.heap.size (.int .i64 0) .nilFunc .nilFunc (.bool false) rfl (by go_simp) (by go_simp) (by go_simp) (by go_simp)) rfl ?_
      have g4 := set4_grown wr w.heap.size (.int .i64 0) .nilFunc .nilFunc (.bool false)
      refine ⟨?_, (unhide HR).keptBut (unhide HB) (by omega) g4, grown_new' (unhide HG) g4 (Nat.le_refl _)⟩
      unfold opEnd
      rw [unhide HO]
      rfl

end Go.Proofs.YtlbpeknncakfeaaGreatDoor

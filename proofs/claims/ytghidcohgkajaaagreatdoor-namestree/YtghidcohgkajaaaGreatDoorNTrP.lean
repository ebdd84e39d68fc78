/-
  NamesTree: the law's own walk over all directories: its counts, its queue.
-/
import Derived.Test.YtghidcohgkajaaaGreatDoorNTreeL
import Derived.Test.YtghidcohgkajaaaGreatDoorNTreeP
import Derived.Test.YtghidcohgkajaaaGreatDoorM10
import Derived.ArgAppend
namespace Go.Proofs.YtghidcohgkajaaaGreatDoor
open Go.RowKit Go.Maps Go.Sort

def cntC (cf : Nat → Nat) : Array Value := ((List.range 40).map (fun k => Value.int .i64 (cf k : Int))).toArray
def senC (sf : Nat → Bool) : Array Value := ((List.range 40).map (fun k => Value.bool (sf k))).toArray
theorem cnt_get (cf : Nat → Nat) {k : Nat} (h : k < 40) : (cntC cf)[k]? = some (.int .i64 (cf k : Int)) := by
  unfold cntC
  rw [List.getElem?_toArray, List.getElem?_map, List.getElem?_range h]
  rfl
theorem sen_get (sf : Nat → Bool) {k : Nat} (h : k < 40) : (senC sf)[k]? = some (.bool (sf k)) := by
  unfold senC
  rw [List.getElem?_toArray, List.getElem?_map, List.getElem?_range h]
  rfl
theorem cnt_set (cf cf' : Nat → Nat) {k : Nat} (h : k < 40) (hk : cf' k = cf k + 1) (ho : ∀ j, j ≠ k → cf' j = cf j) : (cntC cf).setIfInBounds k (.int .i64 ((cf k : Int) + 1)) = cntC cf' := by
  apply Array.ext_getElem?
  intro j
  rw [Array.getElem?_setIfInBounds]
  by_cases e : k = j
  · subst e
    rw [if_pos rfl, if_pos (by simpa [cntC] using h), cnt_get cf' h, hk]
    rfl
  · rw [if_neg e]
    by_cases hj : j < 40
    · rw [cnt_get cf hj, cnt_get cf' hj, ho j (Ne.symm e)]
    · rw [Array.getElem?_eq_none (by simpa [cntC] using hj), Array.getElem?_eq_none (by simpa [cntC] using hj)]
theorem sen_set (sf sf' : Nat → Bool) {k : Nat} (h : k < 40) (hk : sf' k = true) (ho : ∀ j, j ≠ k → sf' j = sf j) : (senC sf).setIfInBounds k (.bool true) = senC sf' := by
  apply Array.ext_getElem?
  intro j
  rw [Array.getElem?_setIfInBounds]
  by_cases e : k = j
  · subst e
    rw [if_pos rfl, if_pos (by simpa [senC] using h), sen_get sf' h, hk]
  · rw [if_neg e]
    by_cases hj : j < 40
    · rw [sen_get sf hj, sen_get sf' hj, ho j (Ne.symm e)]
    · rw [Array.getElem?_eq_none (by simpa [senC] using hj), Array.getElem?_eq_none (by simpa [senC] using hj)]
theorem mk_cnt (u : World) : (Instr.makeSlice 47 (.int .i64 40) (.int .i64 40)).run Tryz.prog u = .ok (.slice (some ⟨u.heap.size, 0, none⟩) 40 40) (u.alloc (.cells (cntC fun _ => 0) 3)) := by
  obtain ⟨i, hi, hz, hs, hb⟩ := info2 (t := 3) (z := some (.int .i64 0)) (a := 1) (c := 8) (by kernel_rfl)
  have := run_make (P := Tryz.prog) u 47 3 i (.int .i64 0) (by kernel_rfl) hi hz .i64 .i64 40 40 (by omega) (Int.le_refl _) (by rw [hb]; decide) (by decide)
  rw [hs] at this
  have e : madeCells #[.int .i64 0] 40 = cntC fun _ => 0 := by kernel_rfl
  rw [← e]
  simpa [Value.cells] using this
theorem mk_sen (u : World) : (Instr.makeSlice 102 (.int .i64 40) (.int .i64 40)).run Tryz.prog u = .ok (.slice (some ⟨u.heap.size, 0, none⟩) 40 40) (u.alloc (.cells (senC fun _ => false) 4)) := by
  obtain ⟨i, hi, hz, hs, hb⟩ := info2 (t := 4) (z := some (.bool false)) (a := 1) (c := 1) (by kernel_rfl)
  have := run_make (P := Tryz.prog) u 102 4 i (.bool false) (by kernel_rfl) hi hz .i64 .i64 40 40 (by omega) (Int.le_refl _) (by rw [hb]; decide) (by decide)
  rw [hs] at this
  have e : madeCells #[.bool false] 40 = senC fun _ => false := by kernel_rfl
  rw [← e]
  simpa [Value.cells] using this
/-- A queue of numbers, in a block from lo on. -/
def Que (w : World) (v : Value) (l : List Int) (lo : Nat) : Prop := ∃ (b off cap : Nat) (cs : Array Value), v = .slice (some ⟨b, off, none⟩) l.length cap ∧ lo ≤ b ∧ l.length ≤ cap ∧ cap ≤ maxLen ∧ w.heap[b]? = some (.cells cs 3 (0, 0)) ∧ off + cap ≤ cs.size ∧ ∀ (i : Nat) (x : Int), l[i]? = some x → cs[off + i]? = some (.int .i64 x)
theorem Que.keep {w w' : World} {v : Value} {l : List Int} {lo : Nat} (h : Que w v l lo) (hk : ∀ b, lo ≤ b → b < w.heap.size → w'.heap[b]? = w.heap[b]?) : Que w' v l lo := by
  obtain ⟨b, off, cap, cs, h1, h2, h3, h4, h5, h6⟩ := h
  exact ⟨b, off, cap, cs, h1, h2, h3, h4, (hk b h2 (Array.getElem?_eq_some_iff.1 h5).1).trans h5, h6⟩
theorem Que.start (w : World) (lo : Nat) (h : lo ≤ w.heap.size) : Que (w.alloc (.cells #[.int .i64 1] 3)) (.slice (some ⟨w.heap.size, 0, none⟩) 1 1) [1] lo :=
  ⟨w.heap.size, 0, 1, #[.int .i64 1], rfl, h, Nat.le_refl _, by decide, Blk.new w 3 _, Nat.le_refl _, fun i x hx => by
    cases i with
    | zero => simp at hx; subst hx; rfl
    | succ i => simp at hx⟩
/-- Its head, and what is behind it. -/
theorem Que.tail {w : World} {v : Value} {l : List Int} {x : Int} {lo : Nat} (h : Que w v (x :: l) lo) : ∃ (b off cap : Nat), v = .slice (some ⟨b, off, none⟩) (l.length + 1) cap ∧ l.length + 1 ≤ cap ∧ cap ≤ maxLen ∧ w.cell? ⟨b, off, none⟩ = some (.int .i64 x) ∧ (cap = 1 → Que w (.slice (some ⟨b, off, none⟩) l.length 0) l lo) ∧ (cap ≠ 1 → Que w (.slice (some ⟨b, off + 1, none⟩) l.length (cap - 1)) l lo) := by
  obtain ⟨b, off, cap, cs, rfl, h2, h3, h4, h5, h6, h7⟩ := h
  have h3 : l.length + 1 ≤ cap := h3
  refine ⟨b, off, cap, rfl, h3, h4, ?_, fun hc => ?_, fun hc => ?_⟩
  · have := h7 0 x rfl
    rw [Nat.add_zero] at this
    simp [World.cell?, h5, this]
  · subst hc
    have hl : l = [] := List.eq_nil_of_length_eq_zero (by omega)
    subst hl
    exact ⟨b, off, 0, cs, rfl, h2, Nat.le_refl _, Nat.zero_le _, h5, by omega, fun i x hx => by simp at hx⟩
  · refine ⟨b, off + 1, cap - 1, cs, rfl, h2, by omega, by omega, h5, by omega, fun i y hy => ?_⟩
    have := h7 (i + 1) y hy
    rw [show off + 1 + i = off + (i + 1) by omega]
    exact this
/-- One more. -/
theorem Que.push {w : World} {v : Value} {l : List Int} {lo : Nat} (h : Que w v l lo) (hl : l.length ≤ 10000) (hlo : lo ≤ w.heap.size) (k : Int) : ∃ v' w', (∀ ty, (Builtin.append_ #[47, 47] ty #[v, .slice (some ⟨w.heap.size, 0, none⟩) 1 1]).run Tryz.prog (w.alloc (.cells #[.int .i64 k] 3)) = .ok v' w') ∧ Que w' v' (l ++ [k]) lo ∧ GrownS w w' (fun j => v.ownBlock = some j) := by
  obtain ⟨b, off, cap, cs, rfl, h2, h3, h4, h5, h6, h7⟩ := h
  obtain ⟨i, hi, hz, hs, hb⟩ := info2 (t := 3) (z := some (.int .i64 0)) (a := 1) (c := 8) (by kernel_rfl)
  have hbl := (Array.getElem?_eq_some_iff.1 h5).1
  have hal : Below w.heap.size w (w.alloc (.cells #[.int .i64 k] 3)) := (Below.refl _ w).alloc (Nat.le_refl _) _
  have hnews : ∀ (j : Nat) (u : Value), [Value.int .i64 k][j]? = some u → (w.alloc (.cells #[.int .i64 k] 3)).cell? ((⟨w.heap.size, 0, none⟩ : Addr).add j) = some u := fun j u hj => by
    cases j with
    | zero =>
      simp at hj
      subst hj
      rw [add_o]
      exact (Blk.new w 3 #[.int .i64 k]).cell 0 rfl
    | succ j => simp at hj
  have h5' : (w.alloc (.cells #[.int .i64 k] 3)).heap[b]? = some (.cells cs 3 (0, 0)) := (hal.block b hbl).trans h5
  by_cases hr : l.length + 1 ≤ cap
  · have hrun := fun ty => run_append_room_cells (P := Tryz.prog) (w.alloc (.cells #[.int .i64 k] 3)) 47 ty 3 i (by kernel_rfl) hi b off l.length cap ⟨w.heap.size, 0, none⟩ 1 1 [.int .i64 k] (by rw [hs]; rfl) hnews (fun u hu => by simp at hu; subst hu; rfl) hr (fun j hj => by
      have hj : j = 0 := by simpa using hj
      subst hj
      have : off + l.length * i.size < cs.size := by rw [hs]; omega
      simp [World.cell?, h5']
      exact this) (fun j hj => by
      simp [World.frozen?, h5'])
    rw [hs, Nat.mul_one] at hrun
    have hB : Blk (w.alloc (.cells #[.int .i64 k] 3)) b 3 cs := h5'
    refine ⟨_, _, hrun, ⟨b, off, cap, cs.setIfInBounds (off + l.length) (.int .i64 k), by rw [List.length_append]; rfl, h2, by rw [List.length_append]; exact hr, h4, hB.set (off + l.length) (.int .i64 k), by simpa using h6, fun j x hx => ?_⟩, ?_⟩
    · rw [Array.getElem?_setIfInBounds]
      by_cases e : j = l.length
      · subst e
        rw [List.getElem?_append_right (Nat.le_refl _)] at hx
        simp at hx
        rw [if_pos rfl, if_pos (by omega), hx]
      · rw [if_neg (by omega)]
        refine h7 j x ?_
        have hjl : j < (l ++ [k]).length := (List.getElem?_eq_some_iff.1 hx).1
        rw [List.length_append] at hjl
        rw [List.getElem?_append_left (by simp at hjl; omega)] at hx
        exact hx
    · have hg : GrownS (w.alloc (.cells #[.int .i64 k] 3)) ((w.alloc (.cells #[.int .i64 k] 3)).setCell ⟨b, off + l.length, none⟩ (.int .i64 k)) (fun j => j = b) := GrownS.of (grown_setCell _ _ _) (fun k e => by simpa using e)
      exact (grownS_of_below hal).trans (hg.mono (fun j _ e => by rw [e]; rfl))
  · have hrun := fun ty => run_append_arg_grows (P := Tryz.prog) (w.alloc (.cells #[.int .i64 k] 3)) 47 ty 3 i (.int .i64 0) 1 8 (by kernel_rfl) hi hz hs hb rfl (by decide) ⟨b, off, none⟩ l.length cap (l.map fun x => .int .i64 x) (by simp) (fun j u hj => by
      rw [List.getElem?_map] at hj
      obtain ⟨x, hx, rfl⟩ := Option.map_eq_some_iff.1 hj
      rw [add_o]
      simp [World.cell?, h5', h7 j x hx]) ⟨w.heap.size, 0, none⟩ 1 1 [.int .i64 k] rfl hnews (by omega) (by unfold maxLen; omega) (by omega)
    obtain ⟨v', w', r1, r2, r3⟩ := hrun 0
    refine ⟨v', w', fun ty => ?_, ?_, ?_⟩
    · obtain ⟨v2, w2, q1, _, _⟩ := hrun ty
      have : (Builtin.append_ #[47, 47] ty #[.slice (some ⟨b, off, none⟩) l.length cap, .slice (some ⟨w.heap.size, 0, none⟩) 1 1]).run Tryz.prog (w.alloc (.cells #[.int .i64 k] 3)) = (Builtin.append_ #[47, 47] 0 #[.slice (some ⟨b, off, none⟩) l.length cap, .slice (some ⟨w.heap.size, 0, none⟩) 1 1]).run Tryz.prog (w.alloc (.cells #[.int .i64 k] 3)) := rfl
      rw [this]
      exact r1
    · obtain ⟨_, ⟨_, e0⟩ | ⟨g, cap', cur, rfl, g1, g2, g3, g4, g5, g6⟩⟩ := r2
      · omega
      · refine ⟨g, 0, cap', cur, by rw [List.length_append]; rfl, ?_, by rw [List.length_append]; exact g3, g4, g2, by omega, fun j x hx => ?_⟩
        · have : w.heap.size ≤ (w.alloc (.cells #[.int .i64 k] 3)).heap.size := hal.size
          omega
        · have hil := (List.getElem?_eq_some_iff.1 hx).1
          rw [List.length_append] at hil
          have e1 : (cur.toList.take ((l.length + 1) * 1))[j]? = some (.int .i64 x) := by
            rw [g6]
            have : (l.map (fun x => Value.int .i64 x)) ++ [Value.int .i64 k] = (l ++ [k]).map (fun x => Value.int .i64 x) := by simp
            rw [this, List.getElem?_map, hx]
            rfl
          rw [List.getElem?_take, if_pos (by simp at hil; omega)] at e1
          rw [Nat.zero_add]
          simpa using e1
    · exact (grownS_of_below hal).trans ((GrownS.of r3 (S := fun _ => False) (fun k e => by cases e)).mono (fun _ _ e => e.elim))

theorem Que.own {w : World} {v : Value} {l : List Int} {lo : Nat} (h : Que w v l lo) : ∃ b cs, v.ownBlock = some b ∧ lo ≤ b ∧ w.heap[b]? = some (.cells cs 3 (0, 0)) := by
  obtain ⟨b, off, cap, cs, rfl, h2, _, _, h5, _⟩ := h
  exact ⟨b, cs, rfl, h2, h5⟩
theorem Que.form {w : World} {v : Value} {l : List Int} {lo : Nat} (h : Que w v l lo) : ∃ ad cap, v = .slice ad l.length cap ∧ l.length ≤ cap ∧ cap ≤ maxLen := by
  obtain ⟨b, off, cap, cs, rfl, h2, h3, h4, _⟩ := h
  exact ⟨_, cap, rfl, h3, h4⟩
/-- A node that is there has a number from 1 to 39. -/
theorem there_lt {s : NS} (hT : s.T.length ≤ 39) {i : Int} (h : There s i) : 1 ≤ i ∧ i ≤ 39 := by
  obtain ⟨x, hx⟩ := h
  obtain ⟨k, e, _, hl⟩ := ndAt_some hx
  omega
/-- While directories are gone through. -/
structure TrS (W wr : World) (c : Nat) (s : NS) (v : Value) (done todo : List Int) : Prop where
  bel : Below W.heap.size W wr
  cnt : Blk wr c 3 (cntC fun k => cntD s.L done (k : Int))
  sen : Blk wr (c + 1) 4 (senC fun k => decide ((k : Int) ∈ done))
  que : Que wr v todo (c + 2)
  bfs : Bfs (nmI s.T) (kdI s.T) s.L done todo
/-- While the names of a directory are gone through. -/
structure TrI (W wr : World) (c : Nat) (s : NS) (v : Value) (done todo : List Int) (d : Int) (lv : Value) (i j : Nat) : Prop where
  bel : Below W.heap.size W wr
  cnt : Blk wr c 3 (cntC fun k => cntD s.L done (k : Int) + ((entN s.L d).take j).countP (fun x => decide (x.node = (k : Int))))
  sen : Blk wr (c + 1) 4 (senC fun k => decide ((k : Int) ∈ done ++ [d]))
  que : Que wr v (todo ++ (((entN s.L d).take i).filter (fun x => decide (kdI s.T x.node = 2))).map (·.node)) (c + 2)
  row : TRow wr lv (inL s.L d)
theorem TrS.below {W wr wr' : World} {c : Nat} {s : NS} {v : Value} {done todo : List Int} (h : TrS W wr c s v done todo) (hb : Below wr.heap.size wr wr') : TrS W wr' c s v done todo :=
  ⟨h.bel.trans (hb.mono h.bel.size), h.cnt.below hb h.cnt.lt, h.sen.below hb h.sen.lt, h.que.keep (fun b _ hl => hb.block b hl), h.bfs⟩
theorem TrI.below {W wr wr' : World} {c : Nat} {s : NS} {v : Value} {done todo : List Int} {d : Int} {lv : Value} {i j : Nat} (h : TrI W wr c s v done todo d lv i j) (hb : Below wr.heap.size wr wr') : TrI W wr' c s v done todo d lv i j :=
  ⟨h.bel.trans (hb.mono h.bel.size), h.cnt.below hb h.cnt.lt, h.sen.below hb h.sen.lt, h.que.keep (fun b _ hl => hb.block b hl), h.row.below hb⟩
theorem below_setCell {W wr : World} {b i : Nat} {u : Value} (h : Below W.heap.size W wr) (hb : W.heap.size ≤ b) : Below W.heap.size W (wr.setCell ⟨b, i, none⟩ u) := by
  have hg : GrownS wr (wr.setCell ⟨b, i, none⟩ u) (fun j => j = b) := GrownS.of (grown_setCell _ _ _) (fun k e => by simpa using e)
  exact h.trans (hg.below h.size (fun k e => by rw [e]; exact hb))
theorem Blk.apart {w : World} {b b' i : Nat} {u : Value} {t : TypeId} {cs : Array Value} (h : Blk w b t cs) (hne : b ≠ b') : Blk (w.setCell ⟨b', i, none⟩ u) b t cs := by
  have hg : GrownS w (w.setCell ⟨b', i, none⟩ u) (fun j => j = b') := GrownS.of (grown_setCell _ _ _) (fun k e => by simpa using e)
  exact h.grownS hg hne
theorem Que.apart {w : World} {v : Value} {l : List Int} {lo b i : Nat} {u : Value} (h : Que w v l lo) (hb : b < lo) : Que (w.setCell ⟨b, i, none⟩ u) v l lo := by
  have hg : GrownS w (w.setCell ⟨b, i, none⟩ u) (fun j => j = b) := GrownS.of (grown_setCell _ _ _) (fun k e => by simpa using e)
  exact h.keep (fun k h1 h2 => hg.block k h2 (by omega))
/-- The head of the queue is taken: it is seen. -/
theorem TrS.head {W wr : World} {c dn : Nat} {s : NS} {v v' : Value} {done todo : List Int} (h : TrS W wr c s v done ((dn : Int) :: todo)) (hc : W.heap.size ≤ c) (hd : dn < 40) (hq : Que wr v' todo (c + 2)) {lv : Value} {w2 : World} (hb : Below wr.heap.size (wr.setCell ⟨c + 1, dn, none⟩ (.bool true)) w2) (hr : TRow w2 lv (inL s.L (dn : Int))) : TrI W w2 c s v' done todo (dn : Int) lv 0 0 := by
  have hs : (wr.setCell ⟨c + 1, dn, none⟩ (.bool true)).heap.size = wr.heap.size := by simp [World.setCell]
  have hb' : Below (wr.setCell ⟨c + 1, dn, none⟩ (.bool true)).heap.size (wr.setCell ⟨c + 1, dn, none⟩ (.bool true)) w2 := by rw [hs]; exact hb
  have h1 := below_setCell (i := dn) (u := .bool true) h.bel (Nat.le_trans hc (Nat.le_succ c))
  have h2 : Blk (wr.setCell ⟨c + 1, dn, none⟩ (.bool true)) c 3 _ := h.cnt.apart (by omega)
  have h3 := h.sen.set dn (.bool true)
  rw [sen_set _ (fun k => decide ((k : Int) ∈ done ++ [(dn : Int)])) hd (by simp) (fun j hj => by
    have : ((j : Int) = (dn : Int)) = False := by simp; omega
    simp [this])] at h3
  have h4 : Que (wr.setCell ⟨c + 1, dn, none⟩ (.bool true)) v' todo (c + 2) := hq.apart (by omega)
  refine ⟨h1.trans (hb'.mono h1.size), ?_, h3.below hb' h3.lt, ?_, hr⟩
  · have := h2.below hb' h2.lt
    simpa using this
  · have := h4.keep (fun b _ hl => hb'.block b hl)
    simpa using this
theorem take_cnt {l : List Nm} {i : Nat} {x : Nm} (hx : l[i]? = some x) (k : Int) : (l.take (i + 1)).countP (fun x => decide (x.node = k)) = (l.take i).countP (fun x => decide (x.node = k)) + if x.node = k then 1 else 0 := by
  rw [List.take_add_one, hx, List.countP_append]
  simp [List.countP_cons]
/-- Another name is counted. -/
theorem TrI.count {W wr : World} {c : Nat} {s : NS} {v : Value} {done todo : List Int} {d : Int} {lv : Value} {i kn : Nat} {x : Nm} (h : TrI W wr c s v done todo d lv i i) (hx : (entN s.L d)[i]? = some x) (hc : W.heap.size ≤ c) (hk : x.node = (kn : Int)) (hkn : kn < 40) (Z : Nat) (hZ : Z = cntD s.L done (kn : Int) + ((entN s.L d).take i).countP (fun x => decide (x.node = (kn : Int)))) : TrI W (wr.setCell ⟨c, kn, none⟩ (.int .i64 ((Z : Int) + 1))) c s v done todo d lv i (i + 1) := by
  have h3 := h.cnt.set kn (.int .i64 ((Z : Int) + 1))
  rw [hZ] at h3
  rw [cnt_set _ (fun k => cntD s.L done (k : Int) + ((entN s.L d).take (i + 1)).countP (fun x => decide (x.node = (k : Int)))) hkn (by rw [take_cnt hx, if_pos hk]; omega) (fun j hj => by rw [take_cnt hx, if_neg (fun e => hj (by omega))]; omega)] at h3
  rw [← hZ] at h3
  have hg : GrownS wr (wr.setCell ⟨c, kn, none⟩ (.int .i64 ((Z : Int) + 1))) (fun j => j = c) := GrownS.of (grown_setCell _ _ _) (fun k e => by simpa using e)
  refine ⟨below_setCell h.bel hc, h3, h.sen.apart (by omega), h.que.apart (by omega), h.row.grownS hg (fun k hk e => ?_)⟩
  subst e
  rcases h.row with ⟨e1, _⟩ | ⟨g, cap, cs, e1, _, _, hgc, _⟩
  · rw [e1] at hk; cases hk
  · rw [e1] at hk
    injection hk with hk
    subst hk
    have := (show wr.heap[g]? = _ from h.cnt).symm.trans hgc
    cases this
/-- What is no directory is not gone into. -/
theorem TrI.plain {W wr : World} {c : Nat} {s : NS} {v : Value} {done todo : List Int} {d : Int} {lv : Value} {i : Nat} {x : Nm} (h : TrI W wr c s v done todo d lv i (i + 1)) (hx : (entN s.L d)[i]? = some x) (hk : kdI s.T x.node ≠ 2) : TrI W wr c s v done todo d lv (i + 1) (i + 1) := by
  refine ⟨h.bel, h.cnt, h.sen, ?_, h.row⟩
  have e : ((entN s.L d).take (i + 1)).filter (fun x => decide (kdI s.T x.node = 2)) = ((entN s.L d).take i).filter (fun x => decide (kdI s.T x.node = 2)) := by
    rw [List.take_add_one, hx, List.filter_append]
    simp [hk]
  rw [e]
  exact h.que
/-- A directory is put behind the others. -/
theorem TrI.dir {W wr w' : World} {c : Nat} {s : NS} {v v' : Value} {done todo : List Int} {d : Int} {lv : Value} {i : Nat} {x : Nm} (h : TrI W wr c s v done todo d lv i (i + 1)) (hx : (entN s.L d)[i]? = some x) (hk : kdI s.T x.node = 2) (hc : W.heap.size ≤ c) (hq : Que w' v' ((todo ++ (((entN s.L d).take i).filter (fun x => decide (kdI s.T x.node = 2))).map (·.node)) ++ [x.node]) (c + 2)) (hg : GrownS wr w' (fun j => v.ownBlock = some j)) : TrI W w' c s v' done todo d lv (i + 1) (i + 1) := by
  obtain ⟨b, cs, o1, o2, o3⟩ := h.que.own
  rw [o1] at hg
  have hne : ∀ j, j < c + 2 → ¬ some b = some j := fun j hj e => by injection e with e; omega
  refine ⟨h.bel.trans (hg.below h.bel.size (fun k e => by injection e with e; omega)), h.cnt.grownS hg (hne c (by omega)), h.sen.grownS hg (hne (c + 1) (by omega)), ?_, h.row.grownS hg (fun k hk e => ?_)⟩
  · have e : ((entN s.L d).take (i + 1)).filter (fun x => decide (kdI s.T x.node = 2)) = ((entN s.L d).take i).filter (fun x => decide (kdI s.T x.node = 2)) ++ [x] := by
      rw [List.take_add_one, hx, List.filter_append]
      simp [hk]
    rw [e, List.map_append, ← List.append_assoc]
    exact hq
  · injection e with e
    subst e
    rcases h.row with ⟨e1, _⟩ | ⟨g, cap, cs', e1, _, _, hgc, _⟩
    · rw [e1] at hk; cases hk
    · rw [e1] at hk
      injection hk with hk
      subst hk
      have := o3.symm.trans hgc
      cases this
/-- All names of the directory were gone through. -/
theorem TrI.done {W wr : World} {c : Nat} {s : NS} {v : Value} {done todo : List Int} {d : Int} {lv : Value} {i : Nat} (h : TrI W wr c s v done todo d lv i i) (K : NInv s) (B : Bfs (nmI s.T) (kdI s.T) s.L done (d :: todo)) (hi : (entN s.L d).length ≤ i) : TrS W wr c s v (done ++ [d]) (todo ++ kids (kdI s.T) s.L d) := by
  have hd : d ∉ done := fun hm => by
    have := B.nodup
    rw [List.nodup_append] at this
    exact this.2.2 d hm d List.mem_cons_self rfl
  have ht : (entN s.L d).take i = entN s.L d := List.take_of_length_le hi
  refine ⟨h.bel, ?_, h.sen, ?_, B.step K⟩
  · have := h.cnt
    rw [ht] at this
    have e : (fun k : Nat => cntD s.L done (k : Int) + (entN s.L d).countP (fun x => decide (x.node = (k : Int)))) = fun k : Nat => cntD s.L (done ++ [d]) (k : Int) := funext (fun k => (cnt_step hd (k : Int)).symm)
    rw [e] at this
    exact this
  · have := h.que
    rw [ht] at this
    exact this
theorem Bfs.few {s : NS} {done todo : List Int} (hT : s.T.length ≤ 39) (B : Bfs (nmI s.T) (kdI s.T) s.L done todo) : (done ++ todo).length ≤ 39 ∧ ∀ d ∈ done ++ todo, 1 ≤ d ∧ d ≤ 39 := by
  have hr : ∀ d ∈ done ++ todo, 1 ≤ d ∧ d ≤ 39 := fun d hd => there_lt hT (there_nm (B.dirs d hd).2)
  refine ⟨?_, hr⟩
  have h2 : done ++ todo ⊆ (List.range 39).map (fun i : Nat => (i : Int) + 1) := fun d hd => by
    have := hr d hd
    refine List.mem_map.2 ⟨(d - 1).toNat, List.mem_range.2 (by omega), by omega⟩
  have h3 := List.Nodup.length_le_of_subset B.nodup h2
  rw [List.length_map, List.length_range] at h3
  exact h3

end Go.Proofs.YtghidcohgkajaaaGreatDoor

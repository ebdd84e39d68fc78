/-
  Both objects, beside one another, call by call; what comes in.
-/
import Derived.Test.YtbcbnoeplapblaaGreatDoorRVAsk
import Derived.Test.YtbcbnoeplapblaaGreatDoorVLaw
import Derived.Test.YtbcbnoeplapblaaGreatDoorVFew
import Derived.Test.YtbcbnoeplapblaaGreatDoorVStart
namespace Go.Proofs.YtbcbnoeplapblaaGreatDoor
open Go.RowKit Go.Maps

/-- The numbers and the rooms of the calls that a slice holds are such as there are. -/
def OpsFine (w : World) (v : Value) : Prop := ∀ g q n cap, v = .slice (some ⟨g, q, none⟩) n cap → ∀ i, i < n → (∀ m, w.cell? ⟨g, q + i * 5 + 3, none⟩ = some (.int .i64 m) → -9223372036854775808 ≤ m ∧ m ≤ 9223372036854775807) ∧ (∀ u, w.cell? ⟨g, q + i * 5 + 4, none⟩ = some u → RoomOk u)
/-- Both objects stand, apart from one another. -/
def DAt (w : World) (bv br : Nat) (wr : World) (s r : VSt) : Prop := ∃ X Y : Nat → Prop, VAt wr bv X s ∧ RAt w wr br Y r ∧ (∀ j, X j → Y j → False) ∧ (∀ j, X j → w.heap.size ≤ j ∧ j < wr.heap.size) ∧ (∀ j, Y j → w.heap.size ≤ j ∧ j < wr.heap.size) ∧ Below w.heap.size w wr
theorem RAt.own {w0 w : World} {b : Nat} {Y : Nat → Prop} {s : VSt} (h : RAt w0 w b Y s) : Y b := by
  obtain ⟨_, _, _, _, _, _, _, _, hy, _⟩ := h
  exact hy
theorem DAt.do_ {w wr : World} {bv br : Nat} {s r : VSt} (h : DAt w bv br wr s r) (o : OpP) (v : Value) (hv : AIn w v o.args) (ho : o.args.length ≤ 20) (hn : o.name.length ≤ 200) (hL : s.L.length ≤ 1000) (hl : s.args.length ≤ 20) :
    Calls Tryz.prog 8 #[.pointer (some ⟨bv, 0, none⟩), opV o v] wr fun e w1 => e = .returned (.int .i64 (stepS s o).2) ∧ DAt w bv br w1 (stepS s o).1 r := by
  obtain ⟨X, Y, hV, hR, hD, hX, hY, hB⟩ := h
  have hws := hB.size
  refine (do_any bv (fun j => X j ∨ wr.heap.size ≤ j) s o v wr (fun k hk => .inr hk) (hV.mono (fun k hk => .inl hk)) (hv.below hB) (by omega) (by omega) hL (by omega)).mono ?_
  rintro e w1 ⟨rfl, hv1, hg⟩
  have hsz := hg.size
  refine ⟨rfl, _, Y, hv1.tight, hR.grown hg (fun k hk hlt hs => hs.elim (fun e => hD k e hk) (fun e => by omega)) (fun k hk => hk.elim (fun e => (hX k e).1) (fun e => by omega)), ?_, ?_, ?_, ?_⟩
  · rintro j ⟨h1 | h1, h2⟩ h3
    · exact hD j h1 h3
    · have := (hY j h3).2
      omega
  · rintro j ⟨h1 | h1, h2⟩
    · exact ⟨(hX j h1).1, h2⟩
    · exact ⟨by omega, h2⟩
  · exact fun j hj => ⟨(hY j hj).1, by have := (hY j hj).2; omega⟩
  · exact hB.trans (hg.below hws (fun k hk => hk.elim (fun e => (hX k e).1) (fun e => by omega)))
theorem DAt.ask {w wr : World} {bv br : Nat} {s r : VSt} (h : DAt w bv br wr s r) (o : OpP) (v : Value) (hv : AIn w v o.args) (hc : RoomOk v) (hn : o.name.length ≤ 200) (hL : r.L.length ≤ 1000) :
    Calls Tryz.prog 9 #[.pointer (some ⟨br, 0, none⟩), opV o v] wr fun e w1 => e = .returned (.int .i64 (stepS r o).2) ∧ DAt w bv br w1 s (stepS r o).1 := by
  obtain ⟨X, Y, hV, hR, hD, hX, hY, hB⟩ := h
  have hws := hB.size
  have hbr := hR.own
  refine (ask_any w br (fun j => Y j ∨ wr.heap.size ≤ j) r o v wr (fun k hk => .inr hk) (hR.mono (fun k hk => .inl hk)) hv hc (by omega) hL).mono ?_
  rintro e w1 ⟨rfl, hv1, hg⟩
  have hsz := hg.size
  refine ⟨rfl, X, _, hV.grown hg (fun k hk _ e => hD k hk (by rw [e]; exact hbr)), hv1.tight, ?_, ?_, ?_, ?_⟩
  · rintro j h3 ⟨h1 | h1, h2⟩
    · exact hD j h3 h1
    · have := (hX j h3).2
      omega
  · exact fun j hj => ⟨(hX j hj).1, by have := (hX j hj).2; omega⟩
  · rintro j ⟨h1 | h1, h2⟩
    · exact ⟨(hY j h1).1, h2⟩
    · exact ⟨by omega, h2⟩
  · exact hB.trans (hg.below hws (fun k e => by rw [e]; exact (hY br hbr).1))
theorem DAt.below {w wr w1 : World} {bv br : Nat} {s r : VSt} (h : DAt w bv br wr s r) (hb : Below wr.heap.size wr w1) : DAt w bv br w1 s r := by
  obtain ⟨X, Y, hV, hR, hD, hX, hY, hB⟩ := h
  exact ⟨X, Y, hV.below hb, hR.below hb, hD, fun j hj => ⟨(hX j hj).1, Nat.lt_of_lt_of_le (hX j hj).2 hb.size⟩, fun j hj => ⟨(hY j hj).1, Nat.lt_of_lt_of_le (hY j hj).2 hb.size⟩, hB.trans (hb.mono hB.size)⟩
theorem DAt.under {w wr : World} {bv br : Nat} {s r : VSt} (h : DAt w bv br wr s r) : Below w.heap.size w wr := by
  obtain ⟨_, _, _, _, _, _, _, hB⟩ := h
  exact hB
/-- What stays small while calls are made. -/
structure Small (s : VSt) (k : Nat) : Prop where
  few : s.L.length ≤ k
  args : s.args.length ≤ 20
  argz : ∀ x ∈ s.args, x.length ≤ 200
  st : -9223372036854775808 ≤ s.st ∧ s.st ≤ 9223372036854775807
theorem Small.step {s : VSt} {k : Nat} (h : Small s k) (o : OpP) (h1 : o.args.length ≤ 20) (h2 : ∀ x ∈ o.args, x.length ≤ 200) (h3 : -9223372036854775808 ≤ o.n ∧ o.n ≤ 9223372036854775807) : Small (stepS s o).1 (k + 1) := by
  refine ⟨Nat.le_trans (step_len s o) (Nat.succ_le_succ h.few), step_args s o 20 h.args h1, ?_, ?_⟩
  · unfold stepS unsS expS rdoS shfS setS
    repeat' split
    all_goals first | exact h.argz | exact h2 | exact fun x hx => h.argz x (List.mem_of_mem_drop hx)
  · unfold stepS unsS expS rdoS shfS setS
    repeat' split
    all_goals first | exact h.st | exact h3
theorem opB_args {L : List OpP} {k : Nat} {o : OpP} (h : fwB L = true) (ho : L[k]? = some o) : ∀ x ∈ o.args, x.length ≤ 200 := by
  unfold fwB at h
  rw [Bool.and_eq_true, List.all_eq_true] at h
  have := h.2 o (List.mem_of_getElem? ho)
  unfold opB txB at this
  simp only [Bool.and_eq_true, decide_eq_true_eq, List.all_eq_true] at this
  exact this.2.2
theorem room_of {H : Type} {enc : TypeId × Value → H} {W : World} {fuel : Nat} {v : Value} {x : DataW H × List MemPlace} (h : DataW.trod enc Tryz.prog W 0 (fun _ => true) true fuel 22 [v] = some x) : RoomOk v := by
  rcases Deep.open_slice und_texts h with ⟨h0, _⟩ | ⟨a, len, cap, m, n, D, Pl, hcs, _, hl, hm, hmm, hxx, hx⟩
  · simp at h0
    subst h0
    intro a n c e
    injection e with _ e2 _
    omega
  · simp at hcs
    subst hcs
    intro a n c e
    injection e with _ e2 e3
    omega
theorem wf_range {m : Int} (h : (Lit.int .i64 m).wf = true) : -9223372036854775808 ≤ m ∧ m ≤ 9223372036854775807 := by
  simp [Lit.wf] at h
  have h1 : IntKind.i64.min = -9223372036854775808 := by decide
  rw [h1] at h
  exact h
set_option maxRecDepth 20000 in
set_option maxHeartbeats 1000000 in
theorem ops_fine {H : Type} {enc : TypeId × Value → H} {W : World} {v : Value} {d : DataW H} {p : List MemPlace} (hok : ∃ a len cap, v = .slice a len cap) (h : DataW.Trod enc Tryz.prog W 0 (fun _ => true) true 23 v d p) : OpsFine W v := by
  obtain ⟨a0, len0, cap0, rfl⟩ := hok
  obtain ⟨fuel, h⟩ := h
  have h : DataW.trod enc Tryz.prog W 0 (fun _ => true) true fuel 23 [.slice a0 len0 cap0] = some (d, p) := by simpa [Value.cells] using h
  intro g q n cap e i hi
  injection e with e1 e2 e3
  subst e1 e2 e3
  rcases Deep.open_slice und_ops h with ⟨h0, _⟩ | ⟨a, len, cap, m, n, D, Pl, hcs, _, hl, hm, hmm, hxx, hx⟩
  · simp at h0
  · simp at hcs
    obtain ⟨hcs1, hcs2, hcs3⟩ := hcs
    subst hcs1 hcs2 hcs3
    rw [if_pos rfl] at hmm
    subst hmm
    obtain ⟨cs, h1, h2⟩ := hx i (by omega)
    rw [cOp] at h1
    obtain ⟨_, hlen, hcell⟩ := World.cells?_some h1
    obtain ⟨xs, k, hk, hxy, _, hxl, hf⟩ := DataW.trod_struct Tryz.underlying36 h2
    match xs, hxl, cs, hlen with
    | [y0, y1, y2, y3, y4], _, [v0, v1, v2, v3, v4], _ =>
      have g3 := hf 3 _ rfl
      have g4 := hf 4 _ rfl
      simp [c3, c29] at g3 g4
      have e3 := hcell 3 (by omega)
      have e4 := hcell 4 (by omega)
      rw [Deep.add_add] at e3 e4
      obtain ⟨z3, hz3, _, hwf⟩ := DataW.trod_int Tryz.underlying3 g3
      have hrm := room_of g4
      simp at e3 e4 hz3
      rw [add_at2, ← Nat.add_assoc] at e3 e4
      refine ⟨fun mm hm' => ?_, fun u hu => ?_⟩
      · rw [e3, hz3] at hm'
        injection hm' with hm'
        injection hm' with _ hm'
        rw [← hm']
        exact wf_range hwf
      · rw [e4] at hu
        injection hu with hu
        rw [← hu]
        exact hrm

/-- A new object of the document's, beside a new one of the program's. -/
theorem DAt.new {w w2 : World} {b : Nat} {z : List UInt8} {l : List (List UInt8)} {av : Value} (hv : VAt w2 b (fun k => w.heap.size ≤ k) ⟨z, l, [], 0⟩) (hb : Below w.heap.size w w2) (ha : AIn w av l) (hc : RoomOk av) : DAt w b w2.heap.size (w2.alloc (.cells #[.slice none 0 0, .string (BA z), av, .int .i64 0] 32)) ⟨z, l, [], 0⟩ ⟨z, l, [], 0⟩ := by
  have hal : Below w2.heap.size w2 (w2.alloc (.cells #[.slice none 0 0, .string (BA z), av, .int .i64 0] 32)) := (Below.refl _ w2).alloc (Nat.le_refl _) _
  refine ⟨_, fun k => k = w2.heap.size, hv.tight.below hal, ⟨.slice none 0 0, av, Blk.new _ _ _, ⟨none, 0, rfl, fun i x hi => (by simp at hi)⟩, fun k hk => (by cases hk), ha, hc, hb.size, rfl, hb.trans (hal.mono hb.size)⟩, ?_, ?_, ?_, hb.trans (hal.mono hb.size)⟩
  · rintro j ⟨_, h1⟩ h2
    omega
  · exact fun j hj => ⟨hj.1, Nat.lt_of_lt_of_le hj.2 hal.size⟩
  · rintro j rfl
    exact ⟨hb.size, by simp⟩
/-- Names and values are short. -/
def ValsOk (L : List Vr) : Prop := ∀ x ∈ L, x.name.length ≤ 200 ∧ x.value.length ≤ 200
theorem get_short {L : List Vr} (h : ValsOk L) (n : List UInt8) : (getL L n).value.length ≤ 200 := by
  unfold getL
  cases hf : L.find? (fun x => x.name == n) with
  | none => exact Nat.zero_le _
  | some x => exact (h x (List.mem_of_find?_eq_some hf)).2
theorem del_short {L : List Vr} (h : ValsOk L) (n : List UInt8) : ValsOk (delL L n) := fun x hx => h x (List.mem_filter.1 hx).1
theorem put_short {L : List Vr} (h : ValsOk L) {x : Vr} (h1 : x.name.length ≤ 200) (h2 : x.value.length ≤ 200) : ValsOk (putL L x) := by
  intro y hy
  unfold putL at hy
  rcases insL_mem.1 hy with rfl | hy
  · exact ⟨h1, h2⟩
  · exact del_short h _ y hy
theorem step_short {s : VSt} (h : ValsOk s.L) (o : OpP) (h1 : o.name.length ≤ 200) (h2 : o.value.length ≤ 200) : ValsOk (stepS s o).1.L := by
  unfold stepS unsS expS rdoS shfS setS
  repeat' split
  all_goals first | exact h | exact put_short h h1 h2 | exact del_short h _ | exact put_short h h1 (get_short h _)

end Go.Proofs.YtbcbnoeplapblaaGreatDoor

/-
  Numbers of open files: what was written to a sink is told.
  THE FRAME OF A LAW: from 'the call returns true and writes nothing that was there' to the row's step, over any program.
-/
import Derived.Test.YtemologkibcdoaaM41
import Derived.Lib.BufferRead
import Derived.WalkKit
import Derived.ProofKit
import Derived.OpenShut
import Derived.Below
import Derived.Lay
import Derived.Stop.Joined

/- Numbers of open files: what was written to a sink is told. -/
namespace Go.Proofs.Ytemologkibcdoaa
open Go.RowKit Go.Maps

theorem und_bp : Try.prog.underlying 92 = some (.pointer 5) := by kernel_rfl
theorem cells5 : Try.prog.cellsOf 5 = 1 := by kernel_rfl
set_option maxRecDepth 20000 in
set_option maxHeartbeats 2000000 in
/-- The bytes of a sink as a text: of its blocks the buffer's alone turns (its bytes are frozen). -/
theorem kstr_any {w : World} {f q nb n : Nat} {B : Bas} {Z : Nat → Prop} {s : NS} {H : Hp} (M : MX w f q Z s nb n B H) {b k : Nat} {a v : Value} {t : List UInt8} (hb : H b = some ⟨.sink k, 59, #[a, v]⟩) (hr : Row H (.buf k) 5 v (Lib.byteCells t)) : Calls Try.prog 24 #[.pointer (some ⟨b, 0, none⟩)] w fun e w' => e = .returned (.string (BA t)) ∧ GrownS w w' (fun j => ∃ o, H j = some o ∧ o.tg = .buf k) := by
  have hblk := M.blk _ _ hb
  have hbl : Blk (w.drewN 1) b 59 #[a, v] := (hblk.below (below_drew w 1) hblk.lt)
  have c1 : w.drew.cell? ⟨b, 1, none⟩ = some v := hbl.cell 1 rfl
  have hwd : Below w.heap.size w w.drew := below_drew w 1
  have hcl : (Lib.byteCells t).length = t.length := by simp [Lib.byteCells]
  rcases hr with ⟨rfl, he⟩ | ⟨g, cap, cur, rfl, h2, h3, h4, h5, h6⟩
  · have ht : t = [] := List.eq_nil_of_length_eq_zero (by rw [← hcl, he]; rfl)
    subst ht
    have hUS : ∀ (W : World) (p : Option Addr), (Builtin.unsafeString_ #[92, 3] 9 #[.pointer p, .int .i64 0]).run Try.prog W = .ok (.string .empty) W := fun W p => Lib.run_unsafeString_none W _ _ _ p
    have hSD : (Builtin.unsafeSliceData_ #[55] 92 #[.slice none 0 0]).run Try.prog w.drew = .ok (.pointer none) w.drew := rfl
    have HB := hide (grownS_of_below (S := fun j => ∃ o, H j = some o ∧ o.tg = .buf k) hwd)
    clear M hb hblk hbl he hcl hwd
    go_enter Try.func24, Try.ntmps24
    go_wp2
    go_region
    all_goals (go_wp2; go_ret; exact ⟨rfl, unhide HB⟩)
  · rw [hcl] at c1 h3 hbl hblk hb h6
    have hg := M.blk _ _ h2
    by_cases h0 : t = []
    · subst h0
      have hUS : ∀ (W : World) (p : Option Addr), (Builtin.unsafeString_ #[92, 3] 9 #[.pointer p, .int .i64 0]).run Try.prog W = .ok (.string .empty) W := fun W p => Lib.run_unsafeString_none W _ _ _ p
      by_cases hc0 : cap = 0
      · subst hc0
        have hSD : (Builtin.unsafeSliceData_ #[55] 92 #[.slice (some ⟨g, 0, none⟩) 0 0]).run Try.prog w.drew = .ok (.pointer (some ⟨w.drew.heap.size, 0, none⟩)) (w.drew.alloc (.view ⟨g, 0, none⟩ 5)) :=
          Lib.run_unsafeSliceData_zero w.drew _ _ 5 und_bp ⟨g, 0, none⟩ 0 (5, cur.size) (by have hg' : w.drew.heap[g]? = some (.cells cur 5 (0, 0)) := hg; simp [World.shape?, hg'])
        have hv : Below w.heap.size w (w.drew.alloc (.view ⟨g, 0, none⟩ 5)) := hwd.alloc (Nat.le_refl _) _
        have c2 : (w.drew.alloc (.view ⟨g, 0, none⟩ 5)).cell? ⟨b, 1, none⟩ = some (.slice (some ⟨g, 0, none⟩) 0 0) := (hblk.below hv hblk.lt).cell 1 rfl
        have c3 : (w.alloc (.view ⟨g, 0, none⟩ 5)).drew.cell? ⟨b, 1, none⟩ = some (.slice (some ⟨g, 0, none⟩) 0 0) := c2
        have c0 : w.cell? ⟨b, 1, none⟩ = some (.slice (some ⟨g, 0, none⟩) 0 0) := c1
        have HB := hide (grownS_of_below (S := fun j => ∃ o, H j = some o ∧ o.tg = .buf k) hv)
        clear M hb hblk hbl hcl hwd hg h2 h3 h4 h5 h6 hv
        go_enter Try.func24, Try.ntmps24
        go_wp2
        go_region
        all_goals (go_wp2; go_ret; exact ⟨rfl, unhide HB⟩)
      · have hSD : (Builtin.unsafeSliceData_ #[55] 92 #[.slice (some ⟨g, 0, none⟩) 0 cap]).run Try.prog w.drew = .ok (.pointer (some ⟨g, 0, none⟩)) w.drew :=
          Lib.run_unsafeSliceData_row _ _ _ _ _ _ hc0
        have HB := hide (grownS_of_below (S := fun j => ∃ o, H j = some o ∧ o.tg = .buf k) hwd)
        clear M hb hblk hbl hcl hwd hg h2 h3 h4 h5 h6 hc0
        go_enter Try.func24, Try.ntmps24
        go_wp2
        go_region
        all_goals (go_wp2; go_ret; exact ⟨rfl, unhide HB⟩)
    · have hl0 : t.length ≠ 0 := by simpa using h0
      have hSD : (Builtin.unsafeSliceData_ #[55] 92 #[.slice (some ⟨g, 0, none⟩) t.length cap]).run Try.prog w.drew = .ok (.pointer (some ⟨g, 0, none⟩)) w.drew :=
        Lib.run_unsafeSliceData_row _ _ _ _ _ _ (by omega)
      have hUS : (Builtin.unsafeString_ #[92, 3] 9 #[.pointer (some ⟨g, 0, none⟩), .int .i64 (t.length : Int)]).run Try.prog w.drew = .ok (.string (BA t)) (w.drew.freeze ⟨g, 0, none⟩ t.length) := by
        refine Lib.run_unsafeString_row w.drew 92 3 9 5 und_bp cells5 g cur.size (by have hg' : w.drew.heap[g]? = some (.cells cur 5 (0, 0)) := hg; simp [World.shape?, hg']) t h0 (by omega) (by unfold maxLen at h4; omega) ?_
        intro j x hx
        have e1 : (Lib.byteCells t)[j]? = some (.int .u8 x.toNat) := by simp [Lib.byteCells, hx]
        rw [← h6, List.getElem?_take] at e1
        split at e1
        · have e2 := (hg.below hwd hg.lt).cell j (by simpa using e1)
          have e3 : (⟨g, 0, none⟩ : Addr).add j = ⟨g, j, none⟩ := by
            by_cases h : j = 0
            · subst h; simp [Addr.add]
            · simp [Addr.add, h]
          rw [e3]
          exact e2
        · cases e1
      have HB : Hid (GrownS w (w.drew.freeze ⟨g, 0, none⟩ t.length) (fun j => ∃ o, H j = some o ∧ o.tg = .buf k)) := hide (by
        unfold World.freeze
        split
        · exact grownS_of_below hwd
        · exact ⟨rfl, rfl, rfl, by simp, fun j hj hs => by
            have hjg : j ≠ g := fun e => hs ⟨_, by rw [e]; exact h2, rfl⟩
            simp only [Array.getElem?_modify]
            rw [if_neg (fun e => hjg e.symm)]
            rfl⟩)
      obtain ⟨ln, hln⟩ : ∃ ln, ln = t.length := ⟨_, rfl⟩
      obtain ⟨T, hT⟩ : ∃ T, T = BA t := ⟨_, rfl⟩
      rw [← hln] at hUS hSD c1 HB
      rw [← hT] at hUS ⊢
      clear M hb hblk hbl hcl hwd hg h2 h3 h4 h5 h6 h0 hl0 hln hT
      go_enter Try.func24, Try.ntmps24
      go_wp2
      go_region
      all_goals (go_wp2; go_ret; exact ⟨rfl, unhide HB⟩)

end Go.Proofs.Ytemologkibcdoaa

/- THE FRAME OF A LAW: from 'the call returns true and writes nothing that was there' to the row's step, over any program. -/
namespace Go.Proofs.Ytemologkibcdoaa
open Go.ChangeShapes Go.WideShapes Go.ChangeAt Go.RowKit
variable {H : Type} {enc : TypeId × Value → H}

/-- All arguments read behind the call as they read before. -/
theorem trodAll_below {P : Program} (hl : laidOutB P = true) {W W' : World} (hb : Below W.heap.size W W') :
    ∀ (ts : List TypeId) (vs : List Value) (ds : List (DataW H)) (ps : List MemPlace), (∀ t ∈ ts, P.readableRec t = true ∧ t < P.types.size) →
      DataW.TrodAll enc P W 0 (fun _ => true) true ts vs ds ps → DataW.TrodAll enc P W' 0 (fun b => decide (b < W.heap.size)) true ts vs ds ps
  | [], vs, ds, ps, _, h => by
    obtain ⟨rfl, rfl, rfl⟩ := trodAll_nil h
    exact trodAll_mk0
  | t :: ts, vs, ds, ps, ht, h => by
    obtain ⟨v, vs', d, ds', p, q, rfl, rfl, rfl, h0, r0⟩ := trodAll_cons h
    have k := ht t (by simp)
    have lt0 : ∀ x ∈ p, x.block < W.heap.size := by obtain ⟨m, hm⟩ := h0; exact DataW.trod_lt m _ _ _ hm
    exact trodAll_cons_mk (Below.trod hl k.1 k.2 h0 hb lt0) (trodAll_below hl hb ts vs' ds' q (fun u hu => ht u (by simp [hu])) r0)

theorem law_lifted {C : Checked} {os : Os} {f : FuncId} {fn : Func} {s : ChangeSpec} {tb : TypeId}
    (own : ownKnob C.prog.godebug = none) (started : os.Started) (noInit : C.prog.inits.idxOf? f = none) (hfn : C.prog.funcs[f]? = some fn)
    (hl : laidOutB C.prog = true) (hvars : s.vars = []) (hread : ∀ t ∈ fn.params.toList, C.prog.readableRec t = true ∧ t < C.prog.types.size)
    (hres : fn.resultTypes = #[tb]) (hbool : C.prog.underlying tb = some .bool)
    (hspec : ∀ ds : List (DataW H), ds.length = fn.params.toList.length → s.fn H ds = { results := [.lit (.bool true)], args := ds })
    (witness : ∃ (w : World) (tape : Tape) (i : Input), w.os = os ∧ (w.forCall tape i).Shaped C.prog ∧ i.vars = [] ∧ Input.okWide C.prog (w.forCall tape i) .any w.heap.size f i ∧ s.pre6 enc C.prog fn [] false (w.forCall tape i).memory i.args ∧ Assume.holds {} C.prog (lone (Frame.enter C.prog f i.args .normal) [] (w.forCall tape i)))
    (contract : ∀ (W : World) (base : Nat) (args : Array Value) (ds : List (DataW H)) (ps : List MemPlace),
      (∀ (j : Nat) t v, fn.params[j]? = some t → args[j]? = some v → Value.okWide C.prog W .any base t v) →
      DataW.TrodAll enc C.prog W 0 (fun _ => true) true fn.params.toList args.toList ds ps →
      Calls C.prog f args W fun e W' => e = .returned (.bool true) ∧ Below W.heap.size W W') :
    ReturnsInHanded {} C os f .any (s.pre6 enc C.prog fn [] false) (s.post enc C.prog fn false true false false) := by
  refine returnsInHanded_of_change own started noInit hfn witness ?_
  intro W base args ds gs before hval hW _ _
  have hW' := hW
  obtain ⟨p, q, hA, hV, rfl, _, _⟩ := hW
  rw [hvars] at hV
  obtain ⟨rfl, rfl⟩ := trodVars_none hV
  have hlen : ∀ (ts : List TypeId) (vs : List Value) (ds : List (DataW H)) (ps : List MemPlace), DataW.TrodAll enc C.prog W 0 (fun _ => true) true ts vs ds ps → ds.length = ts.length := by
    intro ts
    induction ts with
    | nil => intro vs ds ps h; obtain ⟨_, rfl, _⟩ := trodAll_nil h; rfl
    | cons t ts ih =>
      intro vs ds ps h
      obtain ⟨v, vs', d, ds', p, q, _, rfl, _, _, r0⟩ := trodAll_cons h
      simp [ih _ _ _ r0]
  refine (contract W base args ds p hval hA).mono fun e W' ⟨he, bel⟩ => ?_
  subst he
  have hs := hspec (ds ++ []) (by rw [List.append_nil]; exact hlen _ _ _ _ hA)
  refine ⟨_, rfl, ds, [], p ++ [], [], p, [], hW', ?_, ?_, ?_, bel.frame _, fun h => by cases h⟩
  · rw [hs, hres]
    exact trodAll_mk1 (shut_bool hbool _)
  · rw [hs]
    simp only [List.append_nil]
    exact trodAll_below hl bel _ _ _ _ hread hA
  · rw [hs, hvars]
    rfl

end Go.Proofs.Ytemologkibcdoaa

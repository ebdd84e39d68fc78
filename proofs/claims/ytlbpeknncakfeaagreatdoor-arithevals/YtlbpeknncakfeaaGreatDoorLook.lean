/-
  What is found in the tables of operators.
-/
import Derived.Test.YtlbpeknncakfeaaGreatDoorRd
namespace Go.Proofs.YtlbpeknncakfeaaGreatDoor
open Go.RowKit Go.Maps

/-- What a list has at a key; the last one. -/
def lookR {α : Type} (s : List UInt8) : List (ByteArray × α) → Option α
  | [] => none
  | p :: L => match lookR s L with
    | some v => some v
    | none => if p.1.data.toList = s then some p.2 else none
theorem lookR_cons {α : Type} (s : List UInt8) (p : ByteArray × α) (L : List (ByteArray × α)) : lookR s (p :: L) = match lookR s L with
    | some v => some v
    | none => if p.1.data.toList = s then some p.2 else none := rfl
theorem lookR_map {α β : Type} (g : α → β) (s : List UInt8) : ∀ L : List (ByteArray × α), lookR s (L.map fun p => (p.1, g p.2)) = (lookR s L).map g
  | [] => rfl
  | p :: L => by
    show (match lookR s (L.map fun p => (p.1, g p.2)) with | some v => some v | none => if p.1.data.toList = s then some (g p.2) else none) = _
    rw [lookR_map g s L]
    show _ = (match lookR s L with | some v => some v | none => if p.1.data.toList = s then some p.2 else none).map g
    cases lookR s L with
    | some v => rfl
    | none =>
      show (if p.1.data.toList = s then some (g p.2) else none) = (if p.1.data.toList = s then some p.2 else none).map g
      split <;> rfl
theorem keyLit (s : List UInt8) : WideAt.IsKeyLit (.string s) := by
  simp [WideAt.IsKeyLit]
theorem fold_at (s : List UInt8) (z : DataW Value) : ∀ (L : List (ByteArray × Value)) (D : DataW Value), IsMap D →
    (L.foldl (fun D p => D.put (.string p.1.data.toList) (.held p.2)) D).atKey (.string s) z = (match lookR s L with | some v => .held v | none => D.atKey (.string s) z) ∧
    Maps.has (L.foldl (fun D p => D.put (.string p.1.data.toList) (.held p.2)) D) (.string s) = ((lookR s L).isSome || Maps.has D (.string s))
  | [], D, _ => ⟨rfl, rfl⟩
  | p :: L, D, hD => by
    have ih := fold_at s z L (D.put (.string p.1.data.toList) (.held p.2)) (hD.put _ _)
    rw [List.foldl_cons, ih.1, ih.2, lookR_cons]
    cases lookR s L with
    | some v => exact ⟨rfl, rfl⟩
    | none =>
      simp only []
      by_cases h : p.1.data.toList = s
      · rw [if_pos h]
        subst h
        exact ⟨atKey_put_same hD (keyLit _) _ _, by simp [has_put_same hD (keyLit _)]⟩
      · rw [if_neg h]
        have hne : (Lit.string s) ≠ .string p.1.data.toList := fun e => h (by cases e; rfl)
        exact ⟨atKey_put_other hne _ _, by rw [has_put_other hne]⟩
theorem Dl_at (s : List UInt8) (z : DataW Value) (L : List (ByteArray × Value)) : (Dl L L.length).atKey (.string s) z = (match lookR s L with | some v => .held v | none => z) ∧ Maps.has (Dl L L.length) (.string s) = (lookR s L).isSome := by
  have h := fold_at s z L (.map []) isMap_empty
  unfold Dl
  rw [List.take_length]
  refine ⟨?_, ?_⟩
  · rw [h.1]
    have : DataW.atKey (H := Value) (.map []) (.string s) z = z := atKey_of_not_has rfl z
    rw [this]
  · rw [h.2]; exact Bool.or_false _

theorem look_ops (s : List UInt8) : lookR s opsL = (lookR s opsT).map fun o => .agg o.cells := by
  unfold opsL
  generalize opsT = L
  exact lookR_map (fun o : Opr => Value.agg o.cells) s L
theorem look_signs (s : List UInt8) : lookR s signsL = (lookR s signsT).map fnV := by
  unfold signsL
  generalize signsT = L
  exact lookR_map fnV s L
theorem len18 : opsL.length = 18 := by unfold opsL; rw [List.length_map]; rfl
theorem len4 : signsL.length = 4 := by unfold signsL; rw [List.length_map]; rfl
/-- The operator that is written so. -/
def findOp (s : List UInt8) : Option Opr := lookR s opsT
def findSign (s : List UInt8) : Option Nat := lookR s signsT
def opV : Option Opr → Value
  | some o => .agg o.cells
  | none => .agg #[.int .i64 0, .nilFunc, .nilFunc, .bool false]
def signV : Option Nat → Value
  | some k => fnV k
  | none => .nilFunc
theorem zero101 (w : World) : (zeroValue 101).run Tryz.prog w = .ok (.agg #[.int .i64 0, .nilFunc, .nilFunc, .bool false]) w := by kernel_rfl
theorem zero102 (w : World) : (zeroValue 102).run Tryz.prog w = .ok .nilFunc w := by kernel_rfl

theorem look_op {w : World} {b1 b2 : Nat} (h : Tabs w b1 b2) (s : List UInt8) (hs : s.length ≤ 100000) :
    (Instr.lookup 82 (.map (some b1)) (.string (BA s)) true).run Tryz.prog w = .ok (.tuple #[opV (findOp s), .bool (findOp s).isSome]) w := by
  obtain ⟨v, ps, hrun, hv⟩ := h.ops.look_ok strKeyed Tryz.underlying82 (zero101 w) (zd := .held (.agg #[.int .i64 0, .nilFunc, .nilFunc, .bool false])) (zp := []) rfl (hk_str (BA s) (by rw [BA_size]; unfold maxLen; omega))
  have hd := Dl_at s (.held (.agg #[.int .i64 0, .nilFunc, .nilFunc, .bool false])) opsL
  have hl : lookR s opsL = (lookR s opsT).map fun o => .agg o.cells := look_ops s
  rw [hl, len18] at hd
  rw [hrun]
  have e1 := congrArg (fun z : Option (DataW Value × List MemPlace) => z.map Prod.fst) hv
  have e2 : DataW.held v = (Dl opsL 18).atKey (.string s) (.held (.agg #[.int .i64 0, .nilFunc, .nilFunc, .bool false])) := by simpa [itself] using e1
  have e3 : v = opV (findOp s) := by
    rw [hd.1] at e2
    unfold findOp opV
    cases hf : lookR s opsT with
    | none => rw [hf] at e2; simpa using e2
    | some o => rw [hf] at e2; simpa using e2
  have e4 : Maps.has (Dl opsL 18) (.string (BA s).data.toList) = (findOp s).isSome := by
    rw [BA_list, hd.2]
    unfold findOp
    cases lookR s opsT <;> rfl
  rw [e3, e4]

theorem look_op1 {w : World} {b1 b2 : Nat} (h : Tabs w b1 b2) (s : List UInt8) (hs : s.length ≤ 100000) (o : Opr) (ho : findOp s = some o) :
    (Instr.lookup 82 (.map (some b1)) (.string (BA s)) false).run Tryz.prog w = .ok (.agg o.cells) w := by
  obtain ⟨v, ps, hrun, hv⟩ := h.ops.lookup strKeyed Tryz.underlying82 (zero101 w) (zd := .held (.agg #[.int .i64 0, .nilFunc, .nilFunc, .bool false])) (zp := []) rfl (hk_str (BA s) (by rw [BA_size]; unfold maxLen; omega))
  have hd := Dl_at s (.held (.agg #[.int .i64 0, .nilFunc, .nilFunc, .bool false])) opsL
  have hl : lookR s opsL = (lookR s opsT).map fun o => .agg o.cells := look_ops s
  rw [hl, show lookR s opsT = some o from ho, len18] at hd
  rw [hrun]
  have e1 := congrArg (fun z : Option (DataW Value × List MemPlace) => z.map Prod.fst) hv
  have e2 : DataW.held v = (Dl opsL 18).atKey (.string s) (.held (.agg #[.int .i64 0, .nilFunc, .nilFunc, .bool false])) := by simpa [itself] using e1
  rw [hd.1] at e2
  have e3 : v = .agg o.cells := by simpa using e2
  rw [e3]

theorem look_sign {w : World} {b1 b2 : Nat} (h : Tabs w b1 b2) (s : List UInt8) (hs : s.length ≤ 100000) :
    (Instr.lookup 83 (.map (some b2)) (.string (BA s)) true).run Tryz.prog w = .ok (.tuple #[signV (findSign s), .bool (findSign s).isSome]) w := by
  obtain ⟨v, ps, hrun, hv⟩ := h.signs.look_ok strKeyed Tryz.underlying83 (zero102 w) (zd := .held .nilFunc) (zp := []) rfl (hk_str (BA s) (by rw [BA_size]; unfold maxLen; omega))
  have hd := Dl_at s (.held .nilFunc) signsL
  have hl : lookR s signsL = (lookR s signsT).map fnV := look_signs s
  rw [hl, len4] at hd
  rw [hrun]
  have e1 := congrArg (fun z : Option (DataW Value × List MemPlace) => z.map Prod.fst) hv
  have e2 : DataW.held v = (Dl signsL 4).atKey (.string s) (.held .nilFunc) := by simpa [itself] using e1
  have e3 : v = signV (findSign s) := by
    rw [hd.1] at e2
    unfold findSign signV
    cases hf : lookR s signsT with
    | none => rw [hf] at e2; simpa using e2
    | some o => rw [hf] at e2; simpa using e2
  have e4 : Maps.has (Dl signsL 4) (.string (BA s).data.toList) = (findSign s).isSome := by
    rw [BA_list, hd.2]
    unfold findSign
    cases lookR s signsT <;> rfl
  rw [e3, e4]

theorem lookR_mem {α : Type} {s : List UInt8} {v : α} : ∀ {L : List (ByteArray × α)}, lookR s L = some v → v ∈ L.map (·.2)
  | [], h => by cases h
  | p :: L, h => by
    unfold lookR at h
    cases hl : lookR s L with
    | some x => rw [hl] at h; cases h; exact List.mem_cons_of_mem _ (lookR_mem hl)
    | none =>
      rw [hl] at h
      by_cases hp : p.1.data.toList = s
      · simp only [if_pos hp] at h; cases h; simp
      · simp only [if_neg hp] at h; cases h

end Go.Proofs.YtlbpeknncakfeaaGreatDoor

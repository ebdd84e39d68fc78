/-
  A name's value among the variables that are handed in: what 'finder' makes.
-/
import Derived.Test.YtlbpeknncakfeaaGreatDoorDo
namespace Go.Proofs.YtlbpeknncakfeaaGreatDoor
open Go.RowKit Go.Maps

/-- A slice of pairs of texts, in blocks below n. -/
def PRow (n : Nat) (w : World) (v : Value) (l : List (List UInt8 × List UInt8)) : Prop :=
  ∃ (a : Option Addr) (cap : Nat), v = .slice a l.length cap ∧ l.length ≤ 9223372036854775807 ∧ (l = [] ∨ ∃ b o, a = some ⟨b, o, none⟩ ∧ b < n ∧
    ∀ j (hj : j < l.length), w.cell? ⟨b, o + j * 2, none⟩ = some (.string (BA l[j].1)) ∧ w.cell? ⟨b, o + j * 2 + 1, none⟩ = some (.string (BA l[j].2)))
theorem PRow.below {n m : Nat} {w w' : World} {v : Value} {l : List (List UInt8 × List UInt8)} (h : PRow n w v l) (hb : Below m w w') (hm : n ≤ m) : PRow n w' v l := by
  obtain ⟨a, cap, hv, hl, h⟩ := h
  refine ⟨a, cap, hv, hl, ?_⟩
  rcases h with h | ⟨b, o, ha, hlt, hc⟩
  · exact .inl h
  · refine .inr ⟨b, o, ha, hlt, fun j hj => ?_⟩
    have := hc j hj
    have e : w'.heap[b]? = w.heap[b]? := hb.block b (by omega)
    constructor
    · rw [← this.1]; unfold World.cell?; simp only [e]
    · rw [← this.2]; unfold World.cell?; simp only [e]

/-- The value of a name; nothing, if there is none. -/
def findV : List (List UInt8 × List UInt8) → List UInt8 → List UInt8
  | [], _ => []
  | p :: l, s => if p.1 = s then p.2 else findV l s
theorem BA_inj {a b : List UInt8} (h : BA a = BA b) : a = b := by
  have := congrArg (fun x : ByteArray => x.data.toList) h
  exact this

theorem BA_ne {a b : List UInt8} (h : a ≠ b) : ((BA a).toList == (BA b).toList) = false := by
  rw [ByteArray.toList_eq, ByteArray.toList_eq]
  exact beq_false_of_ne h

set_option maxRecDepth 20000 in
set_option maxHeartbeats 4000000 in
theorem find_any (n vb : Nat) (v : Value) (vars : List (List UInt8 × List UInt8)) (s : List UInt8) (w : World) (hb : Blk w vb 27 #[v]) (hr : PRow n w v vars) (hn : n ≤ w.heap.size) :
    Calls Tryz.prog 44 #[.string (BA s), .pointer (some ⟨vb, 0, none⟩)] w fun e w' => e = .returned (.string (BA (findV vars s))) ∧ Below w.heap.size w w' := by
  obtain ⟨a, cap, rfl, hmax, hrow⟩ := hr
  have c0 : w.cell? ⟨vb, 0, none⟩ = some (.slice a vars.length cap) := hb.cell 0 rfl
  have HROW := hide hrow
  clear hb hrow
  go_enter Tryz.func44, Tryz.ntmps44
  go_wp2_with fail
  go_loopw [8] (fun i wr => ∃ k : Nat, k ≤ vars.length ∧ i = .int .i64 k ∧ Hid (findV vars s = findV (vars.drop k) s) ∧ Hid (Below w.heap.size w wr)) (fun i _ => vars.length - (intOf i).toNat)
  case atStart => exact ⟨0, by omega, rfl, hide rfl, hide (Below.refl _ _)⟩
  case round =>
    obtain ⟨k, hk, rfl, HF, HB⟩ := hrel
    by_cases hlt : k < vars.length
    · rcases unhide HROW with h0 | ⟨b, o, rfl, hbn, hc⟩
      · rw [h0] at hlt; simp at hlt
      · obtain ⟨p, hp⟩ : ∃ p, p = vars[k] := ⟨_, rfl⟩
        have e : wr.heap[b]? = w.heap[b]? := (unhide HB).block b (by omega)
        have q1 : wr.cell? ⟨b, o + k * 2, none⟩ = some (.string (BA p.1)) := by rw [hp, ← (hc k hlt).1]; unfold World.cell?; simp only [e]
        have q2 : wr.cell? ⟨b, o + k * 2 + 1, none⟩ = some (.string (BA p.2)) := by rw [hp, ← (hc k hlt).2]; unfold World.cell?; simp only [e]
        have HD : Hid (vars.drop k = p :: vars.drop (k + 1)) := hide (by rw [hp]; exact List.drop_eq_getElem_cons hlt)
        clear hp e hc
        by_cases hps : p.1 = s
        · go_wp2
          go_ret
          refine ⟨?_, (unhide HB).alloc (unhide HB).size _⟩
          rw [unhide HF, unhide HD]
          show _ = Ending.returned (.string (BA (if p.1 = s then p.2 else _)))
          rw [if_pos hps]
          rfl
        · have hne := BA_ne hps
          have HPS := hide hps
          clear hps
          go_wp2
          refine ⟨⟨k + 1, by omega, by go_num, hide ?_, hide ((unhide HB).alloc (unhide HB).size _)⟩, ?_⟩
          · rw [unhide HF, unhide HD]
            show (if p.1 = s then p.2 else _) = _
            rw [if_neg (unhide HPS)]
          · simp [intOf]; omega
    · have hkl : k = vars.length := by omega
      have HK := hide hkl
      clear hkl
      go_wp2
      go_ret
      refine ⟨?_, unhide HB⟩
      rw [unhide HF, unhide HK, List.drop_length]
      rfl

end Go.Proofs.YtlbpeknncakfeaaGreatDoor

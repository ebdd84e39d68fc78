/-
  The document's 'ask': a name's number, the newest setting first, then the variables.
  The document's 'of': what an operator makes of two sides.
  The contract of the document's 'Text' (of stage 1, at this seat's numbers): the number in decimal digits.
-/
import Derived.Test.YtlbpeknncakfeaaGreatDoorEvWork
import Derived.Test.YtlbpeknncakfeaaGreatDoorFind
import Derived.Test.YtlbpeknncakfeaaGreatDoorDo
import Derived.Lib.UnsafeStr
import Derived.Lib.BufferRead
import Derived.Laws.IdiomStrings
import Derived.Lib.ItoaNum

/- The document's 'ask': a name's number, the newest setting first, then the variables. -/
namespace Go.Proofs.YtlbpeknncakfeaaGreatDoor
open Go.RowKit Go.Maps

def AskQ (F G : List UInt8) (dn : Bool) (t : List UInt8) : Prop := (dn = true ∧ t = F) ∨ (dn = false ∧ t = [] ∧ F = G)
theorem AskQ.found {F G t : List UInt8} (h : AskQ F G true t) : t = F := by
  rcases h with h | h
  · exact h.2
  · cases h.1
theorem AskQ.open {F G t : List UInt8} (h : AskQ F G false t) : t = [] ∧ F = G := by
  rcases h with h | h
  · cases h.1
  · exact h.2

theorem rask_dead (nm : ByteArray) (b : Nat) (s : ByteArray) (p d : Nat) (f : Bool) (e : Int) (va sv : Value) (w : World) (h : Wk w b s p d f e va sv) (hl : liveB d f e = false) :
    Calls Tryz.prog 48 #[.pointer (some ⟨b, 0, none⟩), .string nm] w fun e' w' => e' = .returned (.int .i64 0) ∧ w' = w := by
  have HL := hide (rlive_any b s p d f e va sv w h)
  rw [hl] at HL
  clear h hl
  go_enter Tryz.func48, Tryz.ntmps48
  go_wp2_with fail
  refine (unhide HL).mono ?_
  rintro e' w1 ⟨rfl, hw⟩
  have hw2 := hw.symm
  subst hw2
  clear hw
  go_wp2
  go_ret
  exact ⟨rfl, rfl⟩

/-- What asking answers: the number, what is wrong. -/
def AskEnd (w : World) (b : Nat) (s : ByteArray) (p d : Nat) (f : Bool) (va sv : Value) (r : Option Int) (e' : Ending) (w' : World) : Prop :=
  w.grownBy w' (some b) ∧ match r with
    | some n => e' = .returned (.int .i64 n) ∧ Wk w' b s p d f 0 va sv
    | none => e' = .returned (.int .i64 0) ∧ Wk w' b s p d f 10 va sv



set_option maxRecDepth 20000 in
set_option maxHeartbeats 16000000 in
theorem rask_any (nm : List UInt8) (sets vars : List (List UInt8 × List UInt8)) (n₀ : Nat) (b : Nat) (s : ByteArray) (p d : Nat) (f : Bool) (e : Int) (va sv : Value) (w : World) (h : Wk w b s p d f e va sv) (hl : liveB d f e = true)
    (hvr : PRow n₀ w va vars) (hsr : PRow n₀ w sv sets) (hF : (findV (sets.reverse ++ vars) nm).length ≤ 100000) :
    Calls Tryz.prog 48 #[.pointer (some ⟨b, 0, none⟩), .string (BA nm)] w fun e' w' => AskEnd w b s p d f va sv (rvalS (BA (findV (sets.reverse ++ vars) nm))) e' w' := by
  have HL := hide (rlive_any b s p d f e va sv w h)
  rw [hl] at HL
  clear hl
  obtain ⟨aa, ac, rfl, hvm, hvr⟩ := hvr
  obtain ⟨sa, sc, rfl, hsm, hsr⟩ := hsr
  have c4 := h.c4
  have c5 := h.c5
  have c6 := h.c6
  have k4 := h.blk.frozen 4
  have H := hide h
  have HVR := hide hvr
  have HSR := hide hsr
  clear h hvr hsr
  have HQ1 : Hid (AskQ (findV (sets.reverse ++ vars) nm) (findV ((sets.take sets.length).reverse ++ vars) nm) false []) := hide (.inr ⟨rfl, rfl, by rw [List.take_length]⟩)
  have HV := hide (rvalue_any (BA (findV (sets.reverse ++ vars) nm)) w (by rw [BA_size]; exact hF))
  obtain ⟨F, hFe⟩ : ∃ F, F = findV (sets.reverse ++ vars) nm := ⟨_, rfl⟩
  rw [← hFe] at HQ1 HV ⊢
  clear hF hFe
  have hw1 : IntKind.i64.wrap ((sets.length : Int) - 1) = (sets.length : Int) - 1 := by rw [IntKind.wrap_i64]; omega
  go_enter Tryz.func48, Tryz.ntmps48
  go_wp2_with fail
  refine (unhide HL).mono ?_
  rintro e' w1 ⟨rfl, hw⟩
  have hw2 := hw.symm
  subst hw2
  clear hw
  go_wp2_with fail
  go_loop [5, 6, 7] (fun x y i => ∃ (k : Nat) (dn : Bool) (t : List UInt8), i = .int .i64 ((k : Int) - 1) ∧ y = .bool dn ∧ x = .string (BA t) ∧ k ≤ sets.length ∧ Hid (AskQ F (findV ((sets.take k).reverse ++ vars) nm) dn t)) (fun _ _ i => (intOf i + 1).toNat)
  case atStart => exact ⟨sets.length, false, [], rfl, rfl, rfl, Nat.le_refl _, HQ1⟩
  case round =>
    obtain ⟨k, dn, t, rfl, rfl, rfl, hk, HQ⟩ := hrel
    cases dn
    · rcases k with _ | k
      · have HQ2 : Hid (AskQ F (findV (vars.drop 0) nm) false t) := hide (.inr ⟨rfl, (unhide HQ).open.1, (unhide HQ).open.2⟩)
        have hi : ¬ (0 : Int) ≤ ((0 : Nat) : Int) - 1 := by omega
        clear HQ
        go_wp2_with fail
        go_loop [5, 6, 8] (fun x y i => ∃ (j : Nat) (dn : Bool) (t : List UInt8), i = .int .i64 (j : Int) ∧ y = .bool dn ∧ x = .string (BA t) ∧ j ≤ vars.length ∧ Hid (AskQ F (findV (vars.drop j) nm) dn t)) (fun _ _ i => vars.length - (intOf i).toNat)
        case atStart => exact ⟨0, _, t, rfl, rfl, rfl, by omega, HQ2⟩
        case round =>
          obtain ⟨j, dn, t2, rfl, rfl, rfl, hj, HJ⟩ := hrel
          cases dn
          · by_cases hjl : j < vars.length
            · rcases unhide HVR with h0 | ⟨vb, vo, rfl, hvb, hc⟩
              · rw [h0] at hjl; simp at hjl
              · obtain ⟨q, hq⟩ : ∃ q, q = vars[j] := ⟨_, rfl⟩
                have q1 : w.cell? ⟨vb, vo + j * 2, none⟩ = some (.string (BA q.1)) := by rw [hq]; exact (hc j hjl).1
                have q2 : w.cell? ⟨vb, vo + j * 2 + 1, none⟩ = some (.string (BA q.2)) := by rw [hq]; exact (hc j hjl).2
                have hD : vars.drop j = q :: vars.drop (j + 1) := by rw [hq]; exact List.drop_eq_getElem_cons hjl
                clear hq hc
                by_cases hps : q.1 = nm
                · have HN : Hid (AskQ F (findV (vars.drop (j + 1)) nm) true q.2) := hide (.inl ⟨rfl, by
                    have := (unhide HJ).open.2
                    rw [this, hD]
                    show _ = if q.1 = nm then q.2 else _
                    rw [if_pos hps]⟩)
                  clear hD
                  go_wp2
                  refine ⟨⟨j + 1, true, q.2, by go_num, rfl, rfl, by omega, HN⟩, ?_⟩
                  simp [intOf]; omega
                · have HN : Hid (AskQ F (findV (vars.drop (j + 1)) nm) false t2) := hide (.inr ⟨rfl, (unhide HJ).open.1, by
                    have := (unhide HJ).open.2
                    rw [this, hD]
                    show (if q.1 = nm then q.2 else _) = _
                    rw [if_neg hps]⟩)
                  have hne := BA_ne hps
                  clear hD hps
                  go_wp2
                  refine ⟨⟨j + 1, false, t2, by go_num, rfl, rfl, by omega, HN⟩, ?_⟩
                  simp [intOf]; omega
            · have ht : F = t2 := by
                have h1 := (unhide HJ).open
                rw [h1.1, h1.2, List.drop_eq_nil_of_le (by omega)]
                rfl
              subst ht
              go_wp2_with fail
              refine (unhide HV).mono ?_
              rintro e' w1 ⟨he, hw⟩
              have hw2 := hw.symm
              subst hw2
              clear hw
              rcases hr : rvalS (BA F) with _ | n
              · rw [hr] at he
                have he2 : e' = .returned (.tuple #[.int .i64 0, .int .i64 10]) := he
                subst he2
                have HRR := hide hr
                clear he hr
                go_wp2
                go_ret
                refine ⟨grown_setCell _ ⟨b, 4, none⟩ _, ?_⟩
                rw [unhide HRR]
                exact ⟨rfl, (unhide H).err 10⟩
              · rw [hr] at he
                have he2 : e' = .returned (.tuple #[.int .i64 n, .int .i64 0]) := he
                subst he2
                have HRR := hide hr
                clear he hr
                go_wp2
                go_ret
                refine ⟨grown_setCell _ ⟨b, 4, none⟩ _, ?_⟩
                rw [unhide HRR]
                exact ⟨rfl, (unhide H).err 0⟩
          · have ht : F = t2 := (unhide HJ).found.symm
            subst ht
            by_cases hjl : j < vars.length
            · go_wp2_with fail
              refine (unhide HV).mono ?_
              rintro e' w1 ⟨he, hw⟩
              have hw2 := hw.symm
              subst hw2
              clear hw
              rcases hr : rvalS (BA F) with _ | n
              · rw [hr] at he
                have he2 : e' = .returned (.tuple #[.int .i64 0, .int .i64 10]) := he
                subst he2
                have HRR := hide hr
                clear he hr
                go_wp2
                go_ret
                refine ⟨grown_setCell _ ⟨b, 4, none⟩ _, ?_⟩
                rw [unhide HRR]
                exact ⟨rfl, (unhide H).err 10⟩
              · rw [hr] at he
                have he2 : e' = .returned (.tuple #[.int .i64 n, .int .i64 0]) := he
                subst he2
                have HRR := hide hr
                clear he hr
                go_wp2
                go_ret
                refine ⟨grown_setCell _ ⟨b, 4, none⟩ _, ?_⟩
                rw [unhide HRR]
                exact ⟨rfl, (unhide H).err 0⟩
            · go_wp2_with fail
              refine (unhide HV).mono ?_
              rintro e' w1 ⟨he, hw⟩
              have hw2 := hw.symm
              subst hw2
              clear hw
              rcases hr : rvalS (BA F) with _ | n
              · rw [hr] at he
                have he2 : e' = .returned (.tuple #[.int .i64 0, .int .i64 10]) := he
                subst he2
                have HRR := hide hr
                clear he hr
                go_wp2
                go_ret
                refine ⟨grown_setCell _ ⟨b, 4, none⟩ _, ?_⟩
                rw [unhide HRR]
                exact ⟨rfl, (unhide H).err 10⟩
              · rw [hr] at he
                have he2 : e' = .returned (.tuple #[.int .i64 n, .int .i64 0]) := he
                subst he2
                have HRR := hide hr
                clear he hr
                go_wp2
                go_ret
                refine ⟨grown_setCell _ ⟨b, 4, none⟩ _, ?_⟩
                rw [unhide HRR]
                exact ⟨rfl, (unhide H).err 0⟩
      · have hkl : k < sets.length := by omega
        have hi : ((k + 1 : Nat) : Int) - 1 = (k : Int) := by omega
        rw [hi]
        have hi2 : (0 : Int) ≤ (k : Int) := by omega
        have hwk : IntKind.i64.wrap ((k : Int) - 1) = (k : Int) - 1 := by rw [IntKind.wrap_i64]; omega
        rcases unhide HSR with h0 | ⟨vb, vo, rfl, hvb, hc⟩
        · rw [h0] at hkl; simp at hkl
        · obtain ⟨q, hq⟩ : ∃ q, q = sets[k] := ⟨_, rfl⟩
          have q1 : w.cell? ⟨vb, vo + k * 2, none⟩ = some (.string (BA q.1)) := by rw [hq]; exact (hc k hkl).1
          have q2 : w.cell? ⟨vb, vo + k * 2 + 1, none⟩ = some (.string (BA q.2)) := by rw [hq]; exact (hc k hkl).2
          have hD : (sets.take (k + 1)).reverse ++ vars = q :: ((sets.take k).reverse ++ vars) := by rw [hq, List.take_succ_eq_append_getElem hkl, List.reverse_append]; rfl
          clear hq hc
          by_cases hps : q.1 = nm
          · have HN : Hid (AskQ F (findV ((sets.take k).reverse ++ vars) nm) true q.2) := hide (.inl ⟨rfl, by
              have := (unhide HQ).open.2
              rw [this, hD]
              show _ = if q.1 = nm then q.2 else _
              rw [if_pos hps]⟩)
            clear hD
            go_wp2
            refine ⟨⟨k, true, q.2, by go_num, rfl, rfl, by omega, HN⟩, ?_⟩
            simp [intOf]
          · have HN : Hid (AskQ F (findV ((sets.take k).reverse ++ vars) nm) false t) := hide (.inr ⟨rfl, (unhide HQ).open.1, by
              have := (unhide HQ).open.2
              rw [this, hD]
              show (if q.1 = nm then q.2 else _) = _
              rw [if_neg hps]⟩)
            have hne := BA_ne hps
            clear hD hps
            go_wp2
            refine ⟨⟨k, false, t, by go_num, rfl, rfl, by omega, HN⟩, ?_⟩
            simp [intOf]
    · have HQ2 : Hid (AskQ F (findV (vars.drop 0) nm) true t) := hide (.inl ⟨rfl, (unhide HQ).found⟩)
      by_cases hi : (0 : Int) ≤ (k : Int) - 1
      · go_wp2_with fail
        go_loop [5, 6, 8] (fun x y i => ∃ (j : Nat) (dn : Bool) (t : List UInt8), i = .int .i64 (j : Int) ∧ y = .bool dn ∧ x = .string (BA t) ∧ j ≤ vars.length ∧ Hid (AskQ F (findV (vars.drop j) nm) dn t)) (fun _ _ i => vars.length - (intOf i).toNat)
        case atStart => exact ⟨0, _, t, rfl, rfl, rfl, by omega, HQ2⟩
        case round =>
          obtain ⟨j, dn, t2, rfl, rfl, rfl, hj, HJ⟩ := hrel
          cases dn
          · by_cases hjl : j < vars.length
            · rcases unhide HVR with h0 | ⟨vb, vo, rfl, hvb, hc⟩
              · rw [h0] at hjl; simp at hjl
              · obtain ⟨q, hq⟩ : ∃ q, q = vars[j] := ⟨_, rfl⟩
                have q1 : w.cell? ⟨vb, vo + j * 2, none⟩ = some (.string (BA q.1)) := by rw [hq]; exact (hc j hjl).1
                have q2 : w.cell? ⟨vb, vo + j * 2 + 1, none⟩ = some (.string (BA q.2)) := by rw [hq]; exact (hc j hjl).2
                have hD : vars.drop j = q :: vars.drop (j + 1) := by rw [hq]; exact List.drop_eq_getElem_cons hjl
                clear hq hc
                by_cases hps : q.1 = nm
                · have HN : Hid (AskQ F (findV (vars.drop (j + 1)) nm) true q.2) := hide (.inl ⟨rfl, by
                    have := (unhide HJ).open.2
                    rw [this, hD]
                    show _ = if q.1 = nm then q.2 else _
                    rw [if_pos hps]⟩)
                  clear hD
                  go_wp2
                  refine ⟨⟨j + 1, true, q.2, by go_num, rfl, rfl, by omega, HN⟩, ?_⟩
                  simp [intOf]; omega
                · have HN : Hid (AskQ F (findV (vars.drop (j + 1)) nm) false t2) := hide (.inr ⟨rfl, (unhide HJ).open.1, by
                    have := (unhide HJ).open.2
                    rw [this, hD]
                    show (if q.1 = nm then q.2 else _) = _
                    rw [if_neg hps]⟩)
                  have hne := BA_ne hps
                  clear hD hps
                  go_wp2
                  refine ⟨⟨j + 1, false, t2, by go_num, rfl, rfl, by omega, HN⟩, ?_⟩
                  simp [intOf]; omega
            · have ht : F = t2 := by
                have h1 := (unhide HJ).open
                rw [h1.1, h1.2, List.drop_eq_nil_of_le (by omega)]
                rfl
              subst ht
              go_wp2_with fail
              refine (unhide HV).mono ?_
              rintro e' w1 ⟨he, hw⟩
              have hw2 := hw.symm
              subst hw2
              clear hw
              rcases hr : rvalS (BA F) with _ | n
              · rw [hr] at he
                have he2 : e' = .returned (.tuple #[.int .i64 0, .int .i64 10]) := he
                subst he2
                have HRR := hide hr
                clear he hr
                go_wp2
                go_ret
                refine ⟨grown_setCell _ ⟨b, 4, none⟩ _, ?_⟩
                rw [unhide HRR]
                exact ⟨rfl, (unhide H).err 10⟩
              · rw [hr] at he
                have he2 : e' = .returned (.tuple #[.int .i64 n, .int .i64 0]) := he
                subst he2
                have HRR := hide hr
                clear he hr
                go_wp2
                go_ret
                refine ⟨grown_setCell _ ⟨b, 4, none⟩ _, ?_⟩
                rw [unhide HRR]
                exact ⟨rfl, (unhide H).err 0⟩
          · have ht : F = t2 := (unhide HJ).found.symm
            subst ht
            by_cases hjl : j < vars.length
            · go_wp2_with fail
              refine (unhide HV).mono ?_
              rintro e' w1 ⟨he, hw⟩
              have hw2 := hw.symm
              subst hw2
              clear hw
              rcases hr : rvalS (BA F) with _ | n
              · rw [hr] at he
                have he2 : e' = .returned (.tuple #[.int .i64 0, .int .i64 10]) := he
                subst he2
                have HRR := hide hr
                clear he hr
                go_wp2
                go_ret
                refine ⟨grown_setCell _ ⟨b, 4, none⟩ _, ?_⟩
                rw [unhide HRR]
                exact ⟨rfl, (unhide H).err 10⟩
              · rw [hr] at he
                have he2 : e' = .returned (.tuple #[.int .i64 n, .int .i64 0]) := he
                subst he2
                have HRR := hide hr
                clear he hr
                go_wp2
                go_ret
                refine ⟨grown_setCell _ ⟨b, 4, none⟩ _, ?_⟩
                rw [unhide HRR]
                exact ⟨rfl, (unhide H).err 0⟩
            · go_wp2_with fail
              refine (unhide HV).mono ?_
              rintro e' w1 ⟨he, hw⟩
              have hw2 := hw.symm
              subst hw2
              clear hw
              rcases hr : rvalS (BA F) with _ | n
              · rw [hr] at he
                have he2 : e' = .returned (.tuple #[.int .i64 0, .int .i64 10]) := he
                subst he2
                have HRR := hide hr
                clear he hr
                go_wp2
                go_ret
                refine ⟨grown_setCell _ ⟨b, 4, none⟩ _, ?_⟩
                rw [unhide HRR]
                exact ⟨rfl, (unhide H).err 10⟩
              · rw [hr] at he
                have he2 : e' = .returned (.tuple #[.int .i64 n, .int .i64 0]) := he
                subst he2
                have HRR := hide hr
                clear he hr
                go_wp2
                go_ret
                refine ⟨grown_setCell _ ⟨b, 4, none⟩ _, ?_⟩
                rw [unhide HRR]
                exact ⟨rfl, (unhide H).err 0⟩
      · go_wp2_with fail
        go_loop [5, 6, 8] (fun x y i => ∃ (j : Nat) (dn : Bool) (t : List UInt8), i = .int .i64 (j : Int) ∧ y = .bool dn ∧ x = .string (BA t) ∧ j ≤ vars.length ∧ Hid (AskQ F (findV (vars.drop j) nm) dn t)) (fun _ _ i => vars.length - (intOf i).toNat)
        case atStart => exact ⟨0, _, t, rfl, rfl, rfl, by omega, HQ2⟩
        case round =>
          obtain ⟨j, dn, t2, rfl, rfl, rfl, hj, HJ⟩ := hrel
          cases dn
          · by_cases hjl : j < vars.length
            · rcases unhide HVR with h0 | ⟨vb, vo, rfl, hvb, hc⟩
              · rw [h0] at hjl; simp at hjl
              · obtain ⟨q, hq⟩ : ∃ q, q = vars[j] := ⟨_, rfl⟩
                have q1 : w.cell? ⟨vb, vo + j * 2, none⟩ = some (.string (BA q.1)) := by rw [hq]; exact (hc j hjl).1
                have q2 : w.cell? ⟨vb, vo + j * 2 + 1, none⟩ = some (.string (BA q.2)) := by rw [hq]; exact (hc j hjl).2
                have hD : vars.drop j = q :: vars.drop (j + 1) := by rw [hq]; exact List.drop_eq_getElem_cons hjl
                clear hq hc
                by_cases hps : q.1 = nm
                · have HN : Hid (AskQ F (findV (vars.drop (j + 1)) nm) true q.2) := hide (.inl ⟨rfl, by
                    have := (unhide HJ).open.2
                    rw [this, hD]
                    show _ = if q.1 = nm then q.2 else _
                    rw [if_pos hps]⟩)
                  clear hD
                  go_wp2
                  refine ⟨⟨j + 1, true, q.2, by go_num, rfl, rfl, by omega, HN⟩, ?_⟩
                  simp [intOf]; omega
                · have HN : Hid (AskQ F (findV (vars.drop (j + 1)) nm) false t2) := hide (.inr ⟨rfl, (unhide HJ).open.1, by
                    have := (unhide HJ).open.2
                    rw [this, hD]
                    show (if q.1 = nm then q.2 else _) = _
                    rw [if_neg hps]⟩)
                  have hne := BA_ne hps
                  clear hD hps
                  go_wp2
                  refine ⟨⟨j + 1, false, t2, by go_num, rfl, rfl, by omega, HN⟩, ?_⟩
                  simp [intOf]; omega
            · have ht : F = t2 := by
                have h1 := (unhide HJ).open
                rw [h1.1, h1.2, List.drop_eq_nil_of_le (by omega)]
                rfl
              subst ht
              go_wp2_with fail
              refine (unhide HV).mono ?_
              rintro e' w1 ⟨he, hw⟩
              have hw2 := hw.symm
              subst hw2
              clear hw
              rcases hr : rvalS (BA F) with _ | n
              · rw [hr] at he
                have he2 : e' = .returned (.tuple #[.int .i64 0, .int .i64 10]) := he
                subst he2
                have HRR := hide hr
                clear he hr
                go_wp2
                go_ret
                refine ⟨grown_setCell _ ⟨b, 4, none⟩ _, ?_⟩
                rw [unhide HRR]
                exact ⟨rfl, (unhide H).err 10⟩
              · rw [hr] at he
                have he2 : e' = .returned (.tuple #[.int .i64 n, .int .i64 0]) := he
                subst he2
                have HRR := hide hr
                clear he hr
                go_wp2
                go_ret
                refine ⟨grown_setCell _ ⟨b, 4, none⟩ _, ?_⟩
                rw [unhide HRR]
                exact ⟨rfl, (unhide H).err 0⟩
          · have ht : F = t2 := (unhide HJ).found.symm
            subst ht
            by_cases hjl : j < vars.length
            · go_wp2_with fail
              refine (unhide HV).mono ?_
              rintro e' w1 ⟨he, hw⟩
              have hw2 := hw.symm
              subst hw2
              clear hw
              rcases hr : rvalS (BA F) with _ | n
              · rw [hr] at he
                have he2 : e' = .returned (.tuple #[.int .i64 0, .int .i64 10]) := he
                subst he2
                have HRR := hide hr
                clear he hr
                go_wp2
                go_ret
                refine ⟨grown_setCell _ ⟨b, 4, none⟩ _, ?_⟩
                rw [unhide HRR]
                exact ⟨rfl, (unhide H).err 10⟩
              · rw [hr] at he
                have he2 : e' = .returned (.tuple #[.int .i64 n, .int .i64 0]) := he
                subst he2
                have HRR := hide hr
                clear he hr
                go_wp2
                go_ret
                refine ⟨grown_setCell _ ⟨b, 4, none⟩ _, ?_⟩
                rw [unhide HRR]
                exact ⟨rfl, (unhide H).err 0⟩
            · go_wp2_with fail
              refine (unhide HV).mono ?_
              rintro e' w1 ⟨he, hw⟩
              have hw2 := hw.symm
              subst hw2
              clear hw
              rcases hr : rvalS (BA F) with _ | n
              · rw [hr] at he
                have he2 : e' = .returned (.tuple #[.int .i64 0, .int .i64 10]) := he
                subst he2
                have HRR := hide hr
                clear he hr
                go_wp2
                go_ret
                refine ⟨grown_setCell _ ⟨b, 4, none⟩ _, ?_⟩
                rw [unhide HRR]
                exact ⟨rfl, (unhide H).err 10⟩
              · rw [hr] at he
                have he2 : e' = .returned (.tuple #[.int .i64 n, .int .i64 0]) := he
                subst he2
                have HRR := hide hr
                clear he hr
                go_wp2
                go_ret
                refine ⟨grown_setCell _ ⟨b, 4, none⟩ _, ?_⟩
                rw [unhide HRR]
                exact ⟨rfl, (unhide H).err 0⟩

end Go.Proofs.YtlbpeknncakfeaaGreatDoor

/- The document's 'of': what an operator makes of two sides. -/
namespace Go.Proofs.YtlbpeknncakfeaaGreatDoor
open Go.RowKit Go.Maps

/-- An operator's text, by the number of what it does. -/
def opT (k : Nat) : ByteArray := match k with
  | 65 => ⟨#[124]⟩
  | 66 => ⟨#[94]⟩
  | 67 => ⟨#[38]⟩
  | 68 => ⟨#[61, 61]⟩
  | 69 => ⟨#[33, 61]⟩
  | 70 => ⟨#[60]⟩
  | 71 => ⟨#[60, 61]⟩
  | 72 => ⟨#[62]⟩
  | 73 => ⟨#[62, 61]⟩
  | 74 => ⟨#[60, 60]⟩
  | 75 => ⟨#[62, 62]⟩
  | 76 => ⟨#[43]⟩
  | 77 => ⟨#[45]⟩
  | 78 => ⟨#[42]⟩
  | 79 => ⟨#[47]⟩
  | _ => ⟨#[37]⟩

/-- What is passed over is nothing. -/
theorem rof_dead (op : ByteArray) (x y : Int) (b : Nat) (s : ByteArray) (p d : Nat) (f : Bool) (e : Int) (va sv : Value) (w : World) (h : Wk w b s p d f e va sv) (hl : liveB d f e = false) :
    Calls Tryz.prog 49 #[.pointer (some ⟨b, 0, none⟩), .string op, .int .i64 x, .int .i64 y] w fun e' w' => e' = .returned (.int .i64 0) ∧ w' = w := by
  have HL := hide (rlive_any b s p d f e va sv w h)
  rw [hl] at HL
  clear h hl
  go_enter Tryz.func49, Tryz.ntmps49
  go_wp2_with fail
  refine (unhide HL).mono ?_
  rintro e' w1 ⟨rfl, hw⟩
  have hw2 := hw.symm
  subst hw2
  clear hw
  go_wp2
  go_ret
  exact ⟨rfl, rfl⟩


set_option maxRecDepth 20000 in
set_option maxHeartbeats 4000000 in
theorem rof_65 (x y : Int) (b : Nat) (s : ByteArray) (p d : Nat) (f : Bool) (e : Int) (va sv : Value) (w : World) (h : Wk w b s p d f e va sv) (hl : liveB d f e = true) :
    Calls Tryz.prog 49 #[.pointer (some ⟨b, 0, none⟩), .string ⟨#[124]⟩, .int .i64 x, .int .i64 y] w fun e' w' => e' = .returned (.int .i64 (doI 65 x y)) ∧ w' = w := by
  have HL := hide (rlive_any b s p d f e va sv w h)
  rw [hl] at HL
  clear h hl
  by_cases hx : x = -9223372036854775808
  · subst hx
    go_enter Tryz.func49, Tryz.ntmps49
    go_wp2_with fail
    refine (unhide HL).mono ?_
    rintro e' w1 ⟨rfl, hw⟩
    have hw2 := hw.symm
    subst hw2
    clear hw
    go_wp2
    go_ret
    exact ⟨rfl, rfl⟩
  · have hx' : (x == -9223372036854775808) = false := by simpa using hx
    clear hx
    go_enter Tryz.func49, Tryz.ntmps49
    go_wp2_with fail
    refine (unhide HL).mono ?_
    rintro e' w1 ⟨rfl, hw⟩
    have hw2 := hw.symm
    subst hw2
    clear hw
    go_wp2
    go_ret
    exact ⟨rfl, rfl⟩

set_option maxRecDepth 20000 in
set_option maxHeartbeats 4000000 in
theorem rof_66 (x y : Int) (b : Nat) (s : ByteArray) (p d : Nat) (f : Bool) (e : Int) (va sv : Value) (w : World) (h : Wk w b s p d f e va sv) (hl : liveB d f e = true) :
    Calls Tryz.prog 49 #[.pointer (some ⟨b, 0, none⟩), .string ⟨#[94]⟩, .int .i64 x, .int .i64 y] w fun e' w' => e' = .returned (.int .i64 (doI 66 x y)) ∧ w' = w := by
  have HL := hide (rlive_any b s p d f e va sv w h)
  rw [hl] at HL
  clear h hl
  by_cases hx : x = -9223372036854775808
  · subst hx
    go_enter Tryz.func49, Tryz.ntmps49
    go_wp2_with fail
    refine (unhide HL).mono ?_
    rintro e' w1 ⟨rfl, hw⟩
    have hw2 := hw.symm
    subst hw2
    clear hw
    go_wp2
    go_ret
    exact ⟨rfl, rfl⟩
  · have hx' : (x == -9223372036854775808) = false := by simpa using hx
    clear hx
    go_enter Tryz.func49, Tryz.ntmps49
    go_wp2_with fail
    refine (unhide HL).mono ?_
    rintro e' w1 ⟨rfl, hw⟩
    have hw2 := hw.symm
    subst hw2
    clear hw
    go_wp2
    go_ret
    exact ⟨rfl, rfl⟩

set_option maxRecDepth 20000 in
set_option maxHeartbeats 4000000 in
theorem rof_67 (x y : Int) (b : Nat) (s : ByteArray) (p d : Nat) (f : Bool) (e : Int) (va sv : Value) (w : World) (h : Wk w b s p d f e va sv) (hl : liveB d f e = true) :
    Calls Tryz.prog 49 #[.pointer (some ⟨b, 0, none⟩), .string ⟨#[38]⟩, .int .i64 x, .int .i64 y] w fun e' w' => e' = .returned (.int .i64 (doI 67 x y)) ∧ w' = w := by
  have HL := hide (rlive_any b s p d f e va sv w h)
  rw [hl] at HL
  clear h hl
  by_cases hx : x = -9223372036854775808
  · subst hx
    go_enter Tryz.func49, Tryz.ntmps49
    go_wp2_with fail
    refine (unhide HL).mono ?_
    rintro e' w1 ⟨rfl, hw⟩
    have hw2 := hw.symm
    subst hw2
    clear hw
    go_wp2
    go_ret
    exact ⟨rfl, rfl⟩
  · have hx' : (x == -9223372036854775808) = false := by simpa using hx
    clear hx
    go_enter Tryz.func49, Tryz.ntmps49
    go_wp2_with fail
    refine (unhide HL).mono ?_
    rintro e' w1 ⟨rfl, hw⟩
    have hw2 := hw.symm
    subst hw2
    clear hw
    go_wp2
    go_ret
    exact ⟨rfl, rfl⟩

set_option maxRecDepth 20000 in
set_option maxHeartbeats 4000000 in
theorem rof_68 (x y : Int) (b : Nat) (s : ByteArray) (p d : Nat) (f : Bool) (e : Int) (va sv : Value) (w : World) (h : Wk w b s p d f e va sv) (hl : liveB d f e = true) :
    Calls Tryz.prog 49 #[.pointer (some ⟨b, 0, none⟩), .string ⟨#[61, 61]⟩, .int .i64 x, .int .i64 y] w fun e' w' => e' = .returned (.int .i64 (doI 68 x y)) ∧ w' = w := by
  have HL := hide (rlive_any b s p d f e va sv w h)
  rw [hl] at HL
  clear h hl
  by_cases hx : x = -9223372036854775808
  · subst hx
    go_enter Tryz.func49, Tryz.ntmps49
    go_wp2_with fail
    refine (unhide HL).mono ?_
    rintro e' w1 ⟨rfl, hw⟩
    have hw2 := hw.symm
    subst hw2
    clear hw
    go_wp2_with fail
    refine (rtruth_any _ _).mono ?_
    rintro ee x1 ⟨rfl, hx1⟩
    have hx2 := hx1.symm
    subst hx2
    clear hx1
    go_wp2
    go_ret
    exact ⟨rfl, rfl⟩
  · have hx' : (x == -9223372036854775808) = false := by simpa using hx
    clear hx
    go_enter Tryz.func49, Tryz.ntmps49
    go_wp2_with fail
    refine (unhide HL).mono ?_
    rintro e' w1 ⟨rfl, hw⟩
    have hw2 := hw.symm
    subst hw2
    clear hw
    go_wp2_with fail
    refine (rtruth_any _ _).mono ?_
    rintro ee x1 ⟨rfl, hx1⟩
    have hx2 := hx1.symm
    subst hx2
    clear hx1
    go_wp2
    go_ret
    exact ⟨rfl, rfl⟩

set_option maxRecDepth 20000 in
set_option maxHeartbeats 4000000 in
theorem rof_69 (x y : Int) (b : Nat) (s : ByteArray) (p d : Nat) (f : Bool) (e : Int) (va sv : Value) (w : World) (h : Wk w b s p d f e va sv) (hl : liveB d f e = true) :
    Calls Tryz.prog 49 #[.pointer (some ⟨b, 0, none⟩), .string ⟨#[33, 61]⟩, .int .i64 x, .int .i64 y] w fun e' w' => e' = .returned (.int .i64 (doI 69 x y)) ∧ w' = w := by
  have HL := hide (rlive_any b s p d f e va sv w h)
  rw [hl] at HL
  clear h hl
  by_cases hx : x = -9223372036854775808
  · subst hx
    go_enter Tryz.func49, Tryz.ntmps49
    go_wp2_with fail
    refine (unhide HL).mono ?_
    rintro e' w1 ⟨rfl, hw⟩
    have hw2 := hw.symm
    subst hw2
    clear hw
    go_wp2_with fail
    refine (rtruth_any _ _).mono ?_
    rintro ee x1 ⟨rfl, hx1⟩
    have hx2 := hx1.symm
    subst hx2
    clear hx1
    go_wp2
    go_ret
    exact ⟨rfl, rfl⟩
  · have hx' : (x == -9223372036854775808) = false := by simpa using hx
    clear hx
    go_enter Tryz.func49, Tryz.ntmps49
    go_wp2_with fail
    refine (unhide HL).mono ?_
    rintro e' w1 ⟨rfl, hw⟩
    have hw2 := hw.symm
    subst hw2
    clear hw
    go_wp2_with fail
    refine (rtruth_any _ _).mono ?_
    rintro ee x1 ⟨rfl, hx1⟩
    have hx2 := hx1.symm
    subst hx2
    clear hx1
    go_wp2
    go_ret
    exact ⟨rfl, rfl⟩

set_option maxRecDepth 20000 in
set_option maxHeartbeats 4000000 in
theorem rof_70 (x y : Int) (b : Nat) (s : ByteArray) (p d : Nat) (f : Bool) (e : Int) (va sv : Value) (w : World) (h : Wk w b s p d f e va sv) (hl : liveB d f e = true) :
    Calls Tryz.prog 49 #[.pointer (some ⟨b, 0, none⟩), .string ⟨#[60]⟩, .int .i64 x, .int .i64 y] w fun e' w' => e' = .returned (.int .i64 (doI 70 x y)) ∧ w' = w := by
  have HL := hide (rlive_any b s p d f e va sv w h)
  rw [hl] at HL
  clear h hl
  by_cases hx : x = -9223372036854775808
  · subst hx
    go_enter Tryz.func49, Tryz.ntmps49
    go_wp2_with fail
    refine (unhide HL).mono ?_
    rintro e' w1 ⟨rfl, hw⟩
    have hw2 := hw.symm
    subst hw2
    clear hw
    go_wp2_with fail
    refine (rtruth_any _ _).mono ?_
    rintro ee x1 ⟨rfl, hx1⟩
    have hx2 := hx1.symm
    subst hx2
    clear hx1
    go_wp2
    go_ret
    exact ⟨rfl, rfl⟩
  · have hx' : (x == -9223372036854775808) = false := by simpa using hx
    clear hx
    go_enter Tryz.func49, Tryz.ntmps49
    go_wp2_with fail
    refine (unhide HL).mono ?_
    rintro e' w1 ⟨rfl, hw⟩
    have hw2 := hw.symm
    subst hw2
    clear hw
    go_wp2_with fail
    refine (rtruth_any _ _).mono ?_
    rintro ee x1 ⟨rfl, hx1⟩
    have hx2 := hx1.symm
    subst hx2
    clear hx1
    go_wp2
    go_ret
    exact ⟨rfl, rfl⟩

set_option maxRecDepth 20000 in
set_option maxHeartbeats 4000000 in
theorem rof_71 (x y : Int) (b : Nat) (s : ByteArray) (p d : Nat) (f : Bool) (e : Int) (va sv : Value) (w : World) (h : Wk w b s p d f e va sv) (hl : liveB d f e = true) :
    Calls Tryz.prog 49 #[.pointer (some ⟨b, 0, none⟩), .string ⟨#[60, 61]⟩, .int .i64 x, .int .i64 y] w fun e' w' => e' = .returned (.int .i64 (doI 71 x y)) ∧ w' = w := by
  have HL := hide (rlive_any b s p d f e va sv w h)
  rw [hl] at HL
  clear h hl
  by_cases hx : x = -9223372036854775808
  · subst hx
    go_enter Tryz.func49, Tryz.ntmps49
    go_wp2_with fail
    refine (unhide HL).mono ?_
    rintro e' w1 ⟨rfl, hw⟩
    have hw2 := hw.symm
    subst hw2
    clear hw
    go_wp2_with fail
    refine (rtruth_any _ _).mono ?_
    rintro ee x1 ⟨rfl, hx1⟩
    have hx2 := hx1.symm
    subst hx2
    clear hx1
    go_wp2
    go_ret
    exact ⟨rfl, rfl⟩
  · have hx' : (x == -9223372036854775808) = false := by simpa using hx
    clear hx
    go_enter Tryz.func49, Tryz.ntmps49
    go_wp2_with fail
    refine (unhide HL).mono ?_
    rintro e' w1 ⟨rfl, hw⟩
    have hw2 := hw.symm
    subst hw2
    clear hw
    go_wp2_with fail
    refine (rtruth_any _ _).mono ?_
    rintro ee x1 ⟨rfl, hx1⟩
    have hx2 := hx1.symm
    subst hx2
    clear hx1
    go_wp2
    go_ret
    exact ⟨rfl, rfl⟩

set_option maxRecDepth 20000 in
set_option maxHeartbeats 4000000 in
theorem rof_72 (x y : Int) (b : Nat) (s : ByteArray) (p d : Nat) (f : Bool) (e : Int) (va sv : Value) (w : World) (h : Wk w b s p d f e va sv) (hl : liveB d f e = true) :
    Calls Tryz.prog 49 #[.pointer (some ⟨b, 0, none⟩), .string ⟨#[62]⟩, .int .i64 x, .int .i64 y] w fun e' w' => e' = .returned (.int .i64 (doI 72 x y)) ∧ w' = w := by
  have HL := hide (rlive_any b s p d f e va sv w h)
  rw [hl] at HL
  clear h hl
  by_cases hx : x = -9223372036854775808
  · subst hx
    go_enter Tryz.func49, Tryz.ntmps49
    go_wp2_with fail
    refine (unhide HL).mono ?_
    rintro e' w1 ⟨rfl, hw⟩
    have hw2 := hw.symm
    subst hw2
    clear hw
    go_wp2_with fail
    refine (rtruth_any _ _).mono ?_
    rintro ee x1 ⟨rfl, hx1⟩
    have hx2 := hx1.symm
    subst hx2
    clear hx1
    go_wp2
    go_ret
    exact ⟨rfl, rfl⟩
  · have hx' : (x == -9223372036854775808) = false := by simpa using hx
    clear hx
    go_enter Tryz.func49, Tryz.ntmps49
    go_wp2_with fail
    refine (unhide HL).mono ?_
    rintro e' w1 ⟨rfl, hw⟩
    have hw2 := hw.symm
    subst hw2
    clear hw
    go_wp2_with fail
    refine (rtruth_any _ _).mono ?_
    rintro ee x1 ⟨rfl, hx1⟩
    have hx2 := hx1.symm
    subst hx2
    clear hx1
    go_wp2
    go_ret
    exact ⟨rfl, rfl⟩

set_option maxRecDepth 20000 in
set_option maxHeartbeats 4000000 in
theorem rof_73 (x y : Int) (b : Nat) (s : ByteArray) (p d : Nat) (f : Bool) (e : Int) (va sv : Value) (w : World) (h : Wk w b s p d f e va sv) (hl : liveB d f e = true) :
    Calls Tryz.prog 49 #[.pointer (some ⟨b, 0, none⟩), .string ⟨#[62, 61]⟩, .int .i64 x, .int .i64 y] w fun e' w' => e' = .returned (.int .i64 (doI 73 x y)) ∧ w' = w := by
  have HL := hide (rlive_any b s p d f e va sv w h)
  rw [hl] at HL
  clear h hl
  by_cases hx : x = -9223372036854775808
  · subst hx
    go_enter Tryz.func49, Tryz.ntmps49
    go_wp2_with fail
    refine (unhide HL).mono ?_
    rintro e' w1 ⟨rfl, hw⟩
    have hw2 := hw.symm
    subst hw2
    clear hw
    go_wp2_with fail
    refine (rtruth_any _ _).mono ?_
    rintro ee x1 ⟨rfl, hx1⟩
    have hx2 := hx1.symm
    subst hx2
    clear hx1
    go_wp2
    go_ret
    exact ⟨rfl, rfl⟩
  · have hx' : (x == -9223372036854775808) = false := by simpa using hx
    clear hx
    go_enter Tryz.func49, Tryz.ntmps49
    go_wp2_with fail
    refine (unhide HL).mono ?_
    rintro e' w1 ⟨rfl, hw⟩
    have hw2 := hw.symm
    subst hw2
    clear hw
    go_wp2_with fail
    refine (rtruth_any _ _).mono ?_
    rintro ee x1 ⟨rfl, hx1⟩
    have hx2 := hx1.symm
    subst hx2
    clear hx1
    go_wp2
    go_ret
    exact ⟨rfl, rfl⟩

set_option maxRecDepth 20000 in
set_option maxHeartbeats 4000000 in
theorem rof_76 (x y : Int) (b : Nat) (s : ByteArray) (p d : Nat) (f : Bool) (e : Int) (va sv : Value) (w : World) (h : Wk w b s p d f e va sv) (hl : liveB d f e = true) :
    Calls Tryz.prog 49 #[.pointer (some ⟨b, 0, none⟩), .string ⟨#[43]⟩, .int .i64 x, .int .i64 y] w fun e' w' => e' = .returned (.int .i64 (doI 76 x y)) ∧ w' = w := by
  have HL := hide (rlive_any b s p d f e va sv w h)
  rw [hl] at HL
  clear h hl
  by_cases hx : x = -9223372036854775808
  · subst hx
    go_enter Tryz.func49, Tryz.ntmps49
    go_wp2_with fail
    refine (unhide HL).mono ?_
    rintro e' w1 ⟨rfl, hw⟩
    have hw2 := hw.symm
    subst hw2
    clear hw
    go_wp2
    go_ret
    exact ⟨rfl, rfl⟩
  · have hx' : (x == -9223372036854775808) = false := by simpa using hx
    clear hx
    go_enter Tryz.func49, Tryz.ntmps49
    go_wp2_with fail
    refine (unhide HL).mono ?_
    rintro e' w1 ⟨rfl, hw⟩
    have hw2 := hw.symm
    subst hw2
    clear hw
    go_wp2
    go_ret
    exact ⟨rfl, rfl⟩

set_option maxRecDepth 20000 in
set_option maxHeartbeats 4000000 in
theorem rof_77 (x y : Int) (b : Nat) (s : ByteArray) (p d : Nat) (f : Bool) (e : Int) (va sv : Value) (w : World) (h : Wk w b s p d f e va sv) (hl : liveB d f e = true) :
    Calls Tryz.prog 49 #[.pointer (some ⟨b, 0, none⟩), .string ⟨#[45]⟩, .int .i64 x, .int .i64 y] w fun e' w' => e' = .returned (.int .i64 (doI 77 x y)) ∧ w' = w := by
  have HL := hide (rlive_any b s p d f e va sv w h)
  rw [hl] at HL
  clear h hl
  by_cases hx : x = -9223372036854775808
  · subst hx
    go_enter Tryz.func49, Tryz.ntmps49
    go_wp2_with fail
    refine (unhide HL).mono ?_
    rintro e' w1 ⟨rfl, hw⟩
    have hw2 := hw.symm
    subst hw2
    clear hw
    go_wp2
    go_ret
    exact ⟨rfl, rfl⟩
  · have hx' : (x == -9223372036854775808) = false := by simpa using hx
    clear hx
    go_enter Tryz.func49, Tryz.ntmps49
    go_wp2_with fail
    refine (unhide HL).mono ?_
    rintro e' w1 ⟨rfl, hw⟩
    have hw2 := hw.symm
    subst hw2
    clear hw
    go_wp2
    go_ret
    exact ⟨rfl, rfl⟩

set_option maxRecDepth 20000 in
set_option maxHeartbeats 4000000 in
theorem rof_78 (x y : Int) (b : Nat) (s : ByteArray) (p d : Nat) (f : Bool) (e : Int) (va sv : Value) (w : World) (h : Wk w b s p d f e va sv) (hl : liveB d f e = true) :
    Calls Tryz.prog 49 #[.pointer (some ⟨b, 0, none⟩), .string ⟨#[42]⟩, .int .i64 x, .int .i64 y] w fun e' w' => e' = .returned (.int .i64 (doI 78 x y)) ∧ w' = w := by
  have HL := hide (rlive_any b s p d f e va sv w h)
  rw [hl] at HL
  clear h hl
  by_cases hx : x = -9223372036854775808
  · subst hx
    go_enter Tryz.func49, Tryz.ntmps49
    go_wp2_with fail
    refine (unhide HL).mono ?_
    rintro e' w1 ⟨rfl, hw⟩
    have hw2 := hw.symm
    subst hw2
    clear hw
    go_wp2
    go_ret
    exact ⟨rfl, rfl⟩
  · have hx' : (x == -9223372036854775808) = false := by simpa using hx
    clear hx
    go_enter Tryz.func49, Tryz.ntmps49
    go_wp2_with fail
    refine (unhide HL).mono ?_
    rintro e' w1 ⟨rfl, hw⟩
    have hw2 := hw.symm
    subst hw2
    clear hw
    go_wp2
    go_ret
    exact ⟨rfl, rfl⟩

set_option maxRecDepth 20000 in
set_option maxHeartbeats 4000000 in
theorem rof_74 (x y : Int) (b : Nat) (s : ByteArray) (p d : Nat) (f : Bool) (e : Int) (va sv : Value) (w : World) (h : Wk w b s p d f e va sv) (hl : liveB d f e = true) :
    Calls Tryz.prog 49 #[.pointer (some ⟨b, 0, none⟩), .string ⟨#[60, 60]⟩, .int .i64 x, .int .i64 y] w fun e' w' => e' = .returned (.int .i64 (doI 74 x y)) ∧ w' = w := by
  have HL := hide (rlive_any b s p d f e va sv w h)
  rw [hl] at HL
  clear h hl
  have hy : IntKind.u64.wrap y % 64 = (shW y : Int) := by rw [IntKind.wrap_u64]; unfold shW; omega
  have hy2 : shW y < 64 := by unfold shW; omega
  have hy3 : (IntKind.u64.wrap y).tmod 64 = (shW y : Int) := by rw [Int.tmod_eq_emod_of_nonneg (by rw [IntKind.wrap_u64]; omega)]; exact hy
  by_cases hx : x = -9223372036854775808
  · subst hx
    go_enter Tryz.func49, Tryz.ntmps49
    go_wp2_with fail
    refine (unhide HL).mono ?_
    rintro e' w1 ⟨rfl, hw⟩
    have hw2 := hw.symm
    subst hw2
    clear hw
    go_wp2
    go_ret
    exact ⟨rfl, rfl⟩
  · have hx' : (x == -9223372036854775808) = false := by simpa using hx
    clear hx
    go_enter Tryz.func49, Tryz.ntmps49
    go_wp2_with fail
    refine (unhide HL).mono ?_
    rintro e' w1 ⟨rfl, hw⟩
    have hw2 := hw.symm
    subst hw2
    clear hw
    go_wp2
    go_ret
    exact ⟨rfl, rfl⟩

set_option maxRecDepth 20000 in
set_option maxHeartbeats 4000000 in
theorem rof_75 (x y : Int) (b : Nat) (s : ByteArray) (p d : Nat) (f : Bool) (e : Int) (va sv : Value) (w : World) (h : Wk w b s p d f e va sv) (hl : liveB d f e = true) :
    Calls Tryz.prog 49 #[.pointer (some ⟨b, 0, none⟩), .string ⟨#[62, 62]⟩, .int .i64 x, .int .i64 y] w fun e' w' => e' = .returned (.int .i64 (doI 75 x y)) ∧ w' = w := by
  have HL := hide (rlive_any b s p d f e va sv w h)
  rw [hl] at HL
  clear h hl
  have hy : IntKind.u64.wrap y % 64 = (shW y : Int) := by rw [IntKind.wrap_u64]; unfold shW; omega
  have hy2 : shW y < 64 := by unfold shW; omega
  have hy3 : (IntKind.u64.wrap y).tmod 64 = (shW y : Int) := by rw [Int.tmod_eq_emod_of_nonneg (by rw [IntKind.wrap_u64]; omega)]; exact hy
  by_cases hx : x = -9223372036854775808
  · subst hx
    go_enter Tryz.func49, Tryz.ntmps49
    go_wp2_with fail
    refine (unhide HL).mono ?_
    rintro e' w1 ⟨rfl, hw⟩
    have hw2 := hw.symm
    subst hw2
    clear hw
    go_wp2
    go_ret
    exact ⟨rfl, rfl⟩
  · have hx' : (x == -9223372036854775808) = false := by simpa using hx
    clear hx
    go_enter Tryz.func49, Tryz.ntmps49
    go_wp2_with fail
    refine (unhide HL).mono ?_
    rintro e' w1 ⟨rfl, hw⟩
    have hw2 := hw.symm
    subst hw2
    clear hw
    go_wp2
    go_ret
    exact ⟨rfl, rfl⟩

set_option maxRecDepth 20000 in
set_option maxHeartbeats 4000000 in
theorem rof_79_none (x : Int) (b : Nat) (s : ByteArray) (p d : Nat) (f : Bool) (e : Int) (va sv : Value) (w : World) (h : Wk w b s p d f e va sv) (hl : liveB d f e = true) :
    Calls Tryz.prog 49 #[.pointer (some ⟨b, 0, none⟩), .string ⟨#[47]⟩, .int .i64 x, .int .i64 0] w fun e' w' => e' = .returned (.int .i64 0) ∧ Wk w' b s p d f 13 va sv ∧ w.grownBy w' (some b) := by
  have HL := hide (rlive_any b s p d f e va sv w h)
  rw [hl] at HL
  have k4 := h.c4
  have k5 := h.blk.frozen 4
  have H := hide h
  clear h hl
  go_enter Tryz.func49, Tryz.ntmps49
  go_wp2_with fail
  refine (unhide HL).mono ?_
  rintro e' w1 ⟨rfl, hw⟩
  have hw2 := hw.symm
  subst hw2
  clear hw
  go_wp2
  go_ret
  exact ⟨rfl, (unhide H).err 13, grown_setCell _ ⟨b, 4, none⟩ _⟩
set_option maxRecDepth 20000 in
set_option maxHeartbeats 4000000 in
theorem rof_79 (x y : Int) (hy : y ≠ 0) (b : Nat) (s : ByteArray) (p d : Nat) (f : Bool) (e : Int) (va sv : Value) (w : World) (h : Wk w b s p d f e va sv) (hl : liveB d f e = true) :
    Calls Tryz.prog 49 #[.pointer (some ⟨b, 0, none⟩), .string ⟨#[47]⟩, .int .i64 x, .int .i64 y] w fun e' w' => e' = .returned (.int .i64 (doI 79 x y)) ∧ w' = w := by
  have HL := hide (rlive_any b s p d f e va sv w h)
  rw [hl] at HL
  have hy' : (y == 0) = false := by simpa using hy
  have HY := hide hy
  clear h hl
  by_cases hx : x = -9223372036854775808
  · by_cases hm : y = -1
    · subst hx
      subst hm
      clear hy hy'
      go_enter Tryz.func49, Tryz.ntmps49
      go_wp2_with fail
      refine (unhide HL).mono ?_
      rintro e' w1 ⟨rfl, hw⟩
      have hw2 := hw.symm
      subst hw2
      clear hw
      go_wp2
      go_ret
      exact ⟨ret_int (by decide +kernel), rfl⟩
    · have hm' : (y == -1) = false := by simpa using hm
      have hx' : (x == -9223372036854775808) = true := by simpa using hx
      clear hm hx
      go_enter Tryz.func49, Tryz.ntmps49
      go_wp2_with fail
      refine (unhide HL).mono ?_
      rintro e' w1 ⟨rfl, hw⟩
      have hw2 := hw.symm
      subst hw2
      clear hw
      go_wp2
      go_ret
      exact ⟨rfl, rfl⟩
  · have hx' : (x == -9223372036854775808) = false := by simpa using hx
    clear hx
    go_enter Tryz.func49, Tryz.ntmps49
    go_wp2_with fail
    refine (unhide HL).mono ?_
    rintro e' w1 ⟨rfl, hw⟩
    have hw2 := hw.symm
    subst hw2
    clear hw
    go_wp2
    go_ret
    exact ⟨rfl, rfl⟩

set_option maxRecDepth 20000 in
set_option maxHeartbeats 4000000 in
theorem rof_80_none (x : Int) (b : Nat) (s : ByteArray) (p d : Nat) (f : Bool) (e : Int) (va sv : Value) (w : World) (h : Wk w b s p d f e va sv) (hl : liveB d f e = true) :
    Calls Tryz.prog 49 #[.pointer (some ⟨b, 0, none⟩), .string ⟨#[37]⟩, .int .i64 x, .int .i64 0] w fun e' w' => e' = .returned (.int .i64 0) ∧ Wk w' b s p d f 13 va sv ∧ w.grownBy w' (some b) := by
  have HL := hide (rlive_any b s p d f e va sv w h)
  rw [hl] at HL
  have k4 := h.c4
  have k5 := h.blk.frozen 4
  have H := hide h
  clear h hl
  go_enter Tryz.func49, Tryz.ntmps49
  go_wp2_with fail
  refine (unhide HL).mono ?_
  rintro e' w1 ⟨rfl, hw⟩
  have hw2 := hw.symm
  subst hw2
  clear hw
  go_wp2
  go_ret
  exact ⟨rfl, (unhide H).err 13, grown_setCell _ ⟨b, 4, none⟩ _⟩
set_option maxRecDepth 20000 in
set_option maxHeartbeats 4000000 in
theorem rof_80 (x y : Int) (hy : y ≠ 0) (b : Nat) (s : ByteArray) (p d : Nat) (f : Bool) (e : Int) (va sv : Value) (w : World) (h : Wk w b s p d f e va sv) (hl : liveB d f e = true) :
    Calls Tryz.prog 49 #[.pointer (some ⟨b, 0, none⟩), .string ⟨#[37]⟩, .int .i64 x, .int .i64 y] w fun e' w' => e' = .returned (.int .i64 (doI 80 x y)) ∧ w' = w := by
  have HL := hide (rlive_any b s p d f e va sv w h)
  rw [hl] at HL
  have hy' : (y == 0) = false := by simpa using hy
  have HY := hide hy
  clear h hl
  by_cases hx : x = -9223372036854775808
  · by_cases hm : y = -1
    · subst hx
      subst hm
      clear hy hy'
      go_enter Tryz.func49, Tryz.ntmps49
      go_wp2_with fail
      refine (unhide HL).mono ?_
      rintro e' w1 ⟨rfl, hw⟩
      have hw2 := hw.symm
      subst hw2
      clear hw
      go_wp2
      go_ret
      exact ⟨ret_int (by decide +kernel), rfl⟩
    · have hm' : (y == -1) = false := by simpa using hm
      have hx' : (x == -9223372036854775808) = true := by simpa using hx
      clear hm hx
      go_enter Tryz.func49, Tryz.ntmps49
      go_wp2_with fail
      refine (unhide HL).mono ?_
      rintro e' w1 ⟨rfl, hw⟩
      have hw2 := hw.symm
      subst hw2
      clear hw
      go_wp2
      go_ret
      exact ⟨rfl, rfl⟩
  · have hx' : (x == -9223372036854775808) = false := by simpa using hx
    clear hx
    go_enter Tryz.func49, Tryz.ntmps49
    go_wp2_with fail
    refine (unhide HL).mono ?_
    rintro e' w1 ⟨rfl, hw⟩
    have hw2 := hw.symm
    subst hw2
    clear hw
    go_wp2
    go_ret
    exact ⟨rfl, rfl⟩

end Go.Proofs.YtlbpeknncakfeaaGreatDoor

/- The contract of the document's 'Text' (of stage 1, at this seat's numbers): the number in decimal digits. -/
namespace Go.Proofs.YtlbpeknncakfeaaGreatDoor
open Go.RowKit

theorem ret_str {a b : ByteArray} (h : a = b) : Ending.returned (.string a) = .returned (.string b) := by rw [h]

theorem info5 : (Tryz.prog.info? 5).map (fun i => (i.zero, i.size, i.bytes)) = some (some (.int .u8 0), 1, 1) := by kernel_rfl

/-- The slice of bytes v is the call's own and holds l. -/
def OwnB (w : World) (base : Nat) (v : Value) (l : List UInt8) : Prop := w.ownsRow base 5 1 v l.length (Lib.byteCells l)

theorem ownB_nil (w : World) (base : Nat) : OwnB w base (.slice none 0 0) [] := World.ownsRow_nil _ _ _ _
theorem OwnB.alloc {w : World} {base : Nat} {v : Value} {l : List UInt8} (h : OwnB w base v l) (o : Obj) : OwnB (w.alloc o) base v l := World.ownsRow.alloc h o
theorem byteCells_append (a b : List UInt8) : Lib.byteCells (a ++ b) = Lib.byteCells a ++ Lib.byteCells b := by simp [Lib.byteCells]
theorem add_at (g j : Nat) : ((⟨g, 0, none⟩ : Addr).add j) = ⟨g, j, none⟩ := by
  by_cases h : j = 0
  · subst h; simp [Addr.add]
  · simp [Addr.add, h]
theorem OwnB.shape {w : World} {base : Nat} {v : Value} {l : List UInt8} (h : OwnB w base v l) (hl : l ≠ []) :
    ∃ g cap, v = .slice (some ⟨g, 0, none⟩) l.length cap ∧ base ≤ g ∧ g < w.heap.size ∧ ∀ j (hj : j < l.length), w.cell? ⟨g, j, none⟩ = some (.int .u8 (l[j].toNat : Int)) := by
  obtain ⟨_, ⟨_, h0⟩ | ⟨g, cap, cur, rfl, hb, hg, _, _, _, htk⟩⟩ := h
  · exact absurd (List.eq_nil_of_length_eq_zero h0) hl
  · refine ⟨g, cap, rfl, hb, ?_, fun j hj => ?_⟩
    · rcases Nat.lt_or_ge g w.heap.size with h' | h'
      · exact h'
      · rw [Array.getElem?_eq_none h'] at hg; cases hg
    · have := Lib.bytes_of_row hg (by simpa using htk) j hj
      rwa [add_at] at this
theorem OwnB.text {w : World} {base : Nat} {v : Value} {l : List UInt8} (h : OwnB w base v l) : (convert 108 9 v).run Tryz.prog w = .ok (.string ⟨l.toArray⟩) w := by
  by_cases hl : l = []
  · subst hl
    obtain ⟨_, ⟨rfl, _⟩ | ⟨g, cap, cur, rfl, _⟩⟩ := h
    · exact Lib.run_convert_nil_bytes w 108 9 5 0 Tryz.underlying108 Tryz.underlying5 Tryz.underlying9
    · exact run_convert_bytes_back w 108 9 5 ⟨g, 0, none⟩ cap [] Tryz.underlying108 Tryz.underlying5 Tryz.underlying9 (fun j hj => absurd hj (by simp))
  · obtain ⟨g, cap, rfl, _, _, hc⟩ := h.shape hl
    exact run_convert_bytes_back w 108 9 5 ⟨g, 0, none⟩ cap l Tryz.underlying108 Tryz.underlying5 Tryz.underlying9 (fun j hj => by rw [add_at]; exact hc j hj)

/-- Behind an append of the bytes c: the row holds them too. -/
theorem own_push {w1 : World} {base n : Nat} {v' : Value} {l c : List UInt8} {zs : List Value} (hn : n = l.length + c.length) (hz : zs = Lib.byteCells c) (h : w1.ownsRow base 5 1 v' n (Lib.byteCells l ++ zs)) : OwnB w1 base v' (l ++ c) := by
  unfold OwnB
  rw [byteCells_append, ← hz, List.length_append, ← hn]
  exact h
/-- Behind an append: below the row's base nothing has turned. -/
theorem own_below {w wr w1 : World} {base : Nat} {v : Value} {l : List UInt8} {o : Obj} (hown : OwnB wr base v l) (hbel : Below base w wr) (hb : base ≤ wr.heap.size) (hg : (wr.alloc o).grownBy w1 v.ownBlock) : Below base w w1 :=
  (hbel.alloc hb o).grown hg (by simp; omega) (fun k hk => (World.ownsRow.lt hown k hk).1)
theorem one_cell {w : World} {x : Value} : ∀ j u, [x][j]? = some u → (w.alloc (.cells #[x] 5)).cell? ((⟨w.heap.size, 0, none⟩ : Addr).add j) = some u := by
  intro j u hj
  match j, hj with
  | 0, hj => simp at hj; subst hj; rw [add_at]; go_simp
theorem one_is {x : Int} : ∀ u ∈ [Value.int .u8 x], u.oneCell' = true := by
  intro u hu; simp at hu; subst hu; rfl


/-- The digits of a, the last one first; none of 0. 'f': fuel, at least a. -/
def rdF : Nat → Nat → List UInt8
  | 0, _ => []
  | f + 1, a => if a = 0 then [] else UInt8.ofNat (48 + a % 10) :: rdF f (a / 10)
def rd (a : Nat) : List UInt8 := rdF a a

theorem rdF_more : ∀ (a f g : Nat), a ≤ f → a ≤ g → rdF f a = rdF g a := by
  intro a
  induction a using Nat.strongRecOn with
  | ind a ih =>
    intro f g hf hg
    by_cases h : a = 0
    · subst h
      cases f <;> cases g <;> simp [rdF]
    · obtain ⟨f', rfl⟩ : ∃ f', f = f' + 1 := ⟨f - 1, by omega⟩
      obtain ⟨g', rfl⟩ : ∃ g', g = g' + 1 := ⟨g - 1, by omega⟩
      rw [rdF, rdF, if_neg h, if_neg h, ih (a / 10) (by omega) f' g' (by omega) (by omega)]
theorem rd_zero : rd 0 = [] := rfl
theorem rd_step {a : Nat} (h : a ≠ 0) : rd a = UInt8.ofNat (48 + a % 10) :: rd (a / 10) := by
  unfold rd
  obtain ⟨b, rfl⟩ : ∃ b, a = b + 1 := ⟨a - 1, by omega⟩
  rw [rdF, if_neg h, rdF_more _ b ((b + 1) / 10) (by omega) (Nat.le_refl _)]
theorem rd_len : ∀ (k a : Nat), a < 10 ^ k → (rd a).length ≤ k
  | 0, a, h => by
    have : a = 0 := by simpa using h
    subst this; rw [rd_zero]; simp
  | k + 1, a, h => by
    by_cases h0 : a = 0
    · subst h0; rw [rd_zero]; simp
    · rw [rd_step h0]
      have := rd_len k (a / 10) (by rw [Nat.pow_succ] at h; omega)
      simp; omega
theorem rd_decDigits : ∀ (a : Nat), a ≠ 0 → Lib.decDigits a = (rd a).reverse := by
  intro a
  induction a using Nat.strongRecOn with
  | ind a ih =>
    intro h
    rw [Lib.decDigits, rd_step h]
    by_cases h10 : a < 10
    · have e1 : a % 10 = a := by omega
      have e2 : a / 10 = 0 := by omega
      rw [dif_pos h10, e1, e2, rd_zero]
      rfl
    · rw [dif_neg h10, ih (a / 10) (by omega) (by omega)]
      simp
theorem rd_itoa_pos {n : Int} (h : 0 < n) : Lib.itoa n = (rd n.natAbs).reverse := by
  unfold Lib.itoa
  have e : n.toNat = n.natAbs := by omega
  rw [if_neg (by omega), e, rd_decDigits _ (by omega)]
theorem rd_itoa_neg {n : Int} (h : n < 0) : Lib.itoa n = (rd n.natAbs ++ [45]).reverse := by
  unfold Lib.itoa
  rw [if_pos h, rd_decDigits _ (by omega)]
  simp
theorem itoa_zero : Lib.itoa 0 = [48] := by
  unfold Lib.itoa
  rw [if_neg (by decide), Lib.decDigits]
  rfl

theorem tmod_neg {a : Int} (h : a ≤ 0) : -9 ≤ a.tmod 10 ∧ a.tmod 10 ≤ 0 ∧ (a.tmod 10).natAbs = a.natAbs % 10 := by
  obtain ⟨b, rfl⟩ : ∃ b : Nat, a = -(b : Int) := ⟨a.natAbs, by omega⟩
  rw [Int.neg_tmod, Int.tmod_eq_emod_of_nonneg (by omega)]
  omega
theorem tdiv_neg {a : Int} (h : a ≤ 0) : a ≤ a.tdiv 10 ∧ a.tdiv 10 ≤ 0 ∧ (a.tdiv 10).natAbs = a.natAbs / 10 := by
  obtain ⟨b, rfl⟩ : ∃ b : Nat, a = -(b : Int) := ⟨a.natAbs, by omega⟩
  rw [Int.neg_tdiv, Int.tdiv_eq_ediv_of_nonneg (by omega)]
  omega


set_option maxRecDepth 20000 in
set_option maxHeartbeats 1000000 in
theorem rtext_pos (n : Int) (w : World) (h0 : 0 < n) (h1 : n ≤ 9223372036854775807) :
    Calls Tryz.prog 51 #[.int .i64 n] w fun e w' => e = .returned (.string ⟨(Lib.itoa n).toArray⟩) ∧ Below w.heap.size w w' := by
  obtain ⟨i0, hi, hz0, hz1, hz2⟩ := info_parts info5
  have hn0 : (n == 0) = false := by rw [beq_eq_false_iff_ne]; omega
  have HR := hide (rd_len 19 n.natAbs (by omega))
  go_enter Tryz.func51, Tryz.ntmps51
  go_wp2
  go_loopw [3, 4] (fun v m wr => ∃ (a : Int) (l : List UInt8), m = .int .i64 a ∧ 0 ≤ a ∧ a ≤ 9223372036854775807 ∧ l ++ rd a.natAbs = rd n.natAbs ∧ OwnB wr w.heap.size v l ∧ Below w.heap.size w wr) (fun _ m _ => (intOf m).natAbs)
  case atStart => exact ⟨n, [], rfl, by omega, h1, rfl, ownB_nil _ _, Below.refl _ _⟩
  case round =>
    obtain ⟨a, l, rfl, ha0, ha1, hrd, hown, hbel⟩ := hrel
    have HRD := hide hrd
    have HL : l.length ≤ 19 := by
      have e1 := congrArg List.length hrd
      have e2 := unhide HR
      simp at e1; omega
    clear hrd
    by_cases hz : a = 0
    · subst hz
      have hl : l = rd n.natAbs := by have := unhide HRD; simpa [rd_zero] using this
      have hne : l ≠ [] := by rw [hl, rd_step (by omega)]; simp
      obtain ⟨g, cap, hu, hg0, hg1, hc⟩ := hown.shape hne
      have HL2 := hide hl
      have HC := hide hc
      have HB := hide hbel
      subst hu
      have hpos : 0 < l.length := by cases l with | nil => exact absurd rfl hne | cons _ _ => simp
      clear hl hne hown hc hbel HRD
      obtain ⟨wA, hwA⟩ : ∃ x, x = wr := ⟨_, rfl⟩
      subst hwA
      go_wp2
      go_loopw [6, 7] (fun v m w2 => ∃ (k : Nat), k ≤ l.length ∧ m = .int .i64 ((k : Int) - 1) ∧ OwnB w2 wA.heap.size v (l.drop k).reverse ∧ Below wA.heap.size wA w2) (fun _ m _ => ((intOf m) + 1).toNat)
      case atStart => exact ⟨l.length, Nat.le_refl _, rfl, by rw [List.drop_length]; exact ownB_nil _ _, Below.refl _ _⟩
      case round =>
        obtain ⟨k, hk, rfl, hown2, hbel2⟩ := hrel
        match k, hk, hown2 with
        | 0, hk, hown2 =>
          have hcv := hown2.text
          go_wp2
          go_ret
          exact ⟨ret_str (by rw [rd_itoa_pos h0, ← unhide HL2]), (unhide HB).trans (hbel2.mono (unhide HB).size)⟩
        | k + 1, hk, hown2 =>
          have e : (((k + 1 : Nat) : Int) - 1) = (k : Int) := by omega
          rw [e]
          clear e
          have hcell := (hbel2.cell (p := ⟨g, k, none⟩) hg1).trans ((unhide HC) k (by omega))
          have hlen2 : (l.drop (k + 1)).reverse.length ≤ 19 := by simp; omega
          go_wp2_with (first
            | (at_builtin; refine wpList_append_own _ rfl (.tmp 39) (.tmp 44) 108 rfl wA.heap.size 5 i0 (.int .u8 0) 1 1 Tryz.underlying108 hi hz0 hz1 hz2 rfl (by decide) _ _ _ rfl (hown2.alloc _) ⟨wr.heap.size, 0, none⟩ 1 1 [.int .u8 (l[k].toNat : Int)] rfl rfl one_cell one_is ?d3 ?d4 ?d5 ?_)
            | go_in)
          case d3 => unfold maxLen; omega
          case d4 => omega
          case d5 => have := hbel2.size; simp; omega
          intro v' w1 hown' hgrow _
          have hb' := own_below hown2 hbel2 hbel2.size hgrow
          have ho' : OwnB w1 wA.heap.size v' ((l.drop (k + 1)).reverse ++ [l[k]]) := own_push (zs := [.int .u8 (l[k].toNat : Int)]) (by simp) (by simp [Lib.byteCells]) hown'
          have hr' : (l.drop (k + 1)).reverse ++ [l[k]] = (l.drop k).reverse := by
            rw [List.drop_eq_getElem_cons (l := l) (i := k) (by omega), List.reverse_cons]
          rw [hr'] at ho'
          clear hown' hgrow hown2 hbel2 hr' hcell hlen2
          go_wp2
          go_roundw
          case rel => exact ⟨k, by omega, by go_num, ho', hb'⟩
          case measure => simp [intOf]
    · have hz' : (a == 0) = false := by rw [beq_eq_false_iff_ne]; omega
      have hap : 0 < a := by omega
      go_wp2_with (first
        | (at_builtin; refine wpList_append_own _ rfl (.tmp 21) (.tmp 25) 108 rfl w.heap.size 5 i0 (.int .u8 0) 1 1 Tryz.underlying108 hi hz0 hz1 hz2 rfl (by decide) _ _ _ rfl (hown.alloc _) ⟨wr.heap.size, 0, none⟩ 1 1 [.int .u8 (48 + a % 10)] rfl rfl one_cell one_is ?c3 ?c4 ?c5 ?_)
        | go_in)
      case c3 => unfold maxLen; omega
      case c4 => omega
      case c5 => have := hbel.size; simp; omega
      intro v' w1 hown' hgrow _
      have hb' := own_below hown hbel hbel.size hgrow
      have ho' : OwnB w1 w.heap.size v' (l ++ [UInt8.ofNat (48 + a.natAbs % 10)]) := own_push rfl (by simp [Lib.byteCells]; omega) hown'
      have hr' : (l ++ [UInt8.ofNat (48 + a.natAbs % 10)]) ++ rd (a / 10).natAbs = rd n.natAbs := by
        have e := rd_step (a := a.natAbs) (by omega)
        have e2 : (a / 10).natAbs = a.natAbs / 10 := by omega
        rw [← unhide HRD, e, e2]; simp
      have HR' := hide hr'
      clear hr' hown' hgrow hown hbel
      go_wp2
      go_roundw
      case rel => exact ⟨a / 10, _, by go_num, by omega, by omega, unhide HR', ho', hb'⟩
      case measure => simp [intOf]; omega

set_option maxRecDepth 20000 in
set_option maxHeartbeats 1000000 in
theorem rtext_neg (n : Int) (w : World) (h0 : n < 0) (h1 : -9223372036854775808 ≤ n) :
    Calls Tryz.prog 51 #[.int .i64 n] w fun e w' => e = .returned (.string ⟨(Lib.itoa n).toArray⟩) ∧ Below w.heap.size w w' := by
  obtain ⟨i0, hi, hz0, hz1, hz2⟩ := info_parts info5
  have hn0 : (n == 0) = false := by rw [beq_eq_false_iff_ne]; omega
  have HR := hide (rd_len 19 n.natAbs (by omega))
  go_enter Tryz.func51, Tryz.ntmps51
  go_wp2
  go_loopw [3, 4] (fun v m wr => ∃ (a : Int) (l : List UInt8), m = .int .i64 a ∧ -9223372036854775808 ≤ a ∧ a ≤ 0 ∧ l ++ rd a.natAbs = rd n.natAbs ∧ OwnB wr w.heap.size v l ∧ Below w.heap.size w wr) (fun _ m _ => (intOf m).natAbs)
  case atStart => exact ⟨n, [], rfl, by omega, by omega, rfl, ownB_nil _ _, Below.refl _ _⟩
  case round =>
    obtain ⟨a, l, rfl, ha0, ha1, hrd, hown, hbel⟩ := hrel
    have HRD := hide hrd
    have HL : l.length ≤ 19 := by
      have e1 := congrArg List.length hrd
      have e2 := unhide HR
      simp at e1; omega
    clear hrd
    by_cases hz : a = 0
    · subst hz
      have hl : l = rd n.natAbs := by have := unhide HRD; simpa [rd_zero] using this
      have HL2 := hide hl
      clear hl HRD
      go_wp2_with (first
        | (at_builtin; refine wpList_append_own _ rfl (.tmp 29) (.tmp 30) 108 rfl w.heap.size 5 i0 (.int .u8 0) 1 1 Tryz.underlying108 hi hz0 hz1 hz2 rfl (by decide) _ _ _ rfl (hown.alloc _) ⟨wr.heap.size, 0, none⟩ 1 1 [.int .u8 45] rfl rfl one_cell one_is ?e3 ?e4 ?e5 ?_)
        | go_in)
      case e3 => unfold maxLen; omega
      case e4 => omega
      case e5 => have := hbel.size; simp; omega
      intro v' wA hown' hgrow _
      have hb' := own_below hown hbel hbel.size hgrow
      have ho' : OwnB wA w.heap.size v' (l ++ [45]) := own_push (zs := [.int .u8 45]) rfl (by simp [Lib.byteCells]) hown'
      obtain ⟨L, hL⟩ : ∃ L, L = l ++ [45] := ⟨_, rfl⟩
      rw [← hL] at ho'
      have hne : L ≠ [] := by rw [hL]; simp
      have hLl : L.length ≤ 20 := by rw [hL]; simp; omega
      have HL3 := hide hL
      obtain ⟨g, cap, hu, hg0, hg1, hc⟩ := ho'.shape hne
      have HC := hide hc
      have HB := hide hb'
      subst hu
      have hpos : 0 < L.length := by cases L with | nil => exact absurd rfl hne | cons _ _ => simp
      clear hne hown hc hbel hown' hgrow hb' ho' hL
      go_wp2
      go_loopw [6, 7] (fun v m w2 => ∃ (k : Nat), k ≤ L.length ∧ m = .int .i64 ((k : Int) - 1) ∧ OwnB w2 wA.heap.size v (L.drop k).reverse ∧ Below wA.heap.size wA w2) (fun _ m _ => ((intOf m) + 1).toNat)
      case atStart => exact ⟨L.length, Nat.le_refl _, rfl, by rw [List.drop_length]; exact ownB_nil _ _, Below.refl _ _⟩
      case round =>
        obtain ⟨k, hk, rfl, hown2, hbel2⟩ := hrel
        match k, hk, hown2 with
        | 0, hk, hown2 =>
          have hcv := hown2.text
          go_wp2
          go_ret
          exact ⟨ret_str (by rw [rd_itoa_neg h0, ← unhide HL2, ← unhide HL3]), (unhide HB).trans (hbel2.mono (unhide HB).size)⟩
        | k + 1, hk, hown2 =>
          have e : (((k + 1 : Nat) : Int) - 1) = (k : Int) := by omega
          rw [e]
          clear e
          have hcell := (hbel2.cell (p := ⟨g, k, none⟩) hg1).trans ((unhide HC) k (by omega))
          have hlen2 : (L.drop (k + 1)).reverse.length ≤ 20 := by simp; omega
          go_wp2_with (first
            | (at_builtin; refine wpList_append_own _ rfl (.tmp 39) (.tmp 44) 108 rfl wA.heap.size 5 i0 (.int .u8 0) 1 1 Tryz.underlying108 hi hz0 hz1 hz2 rfl (by decide) _ _ _ rfl (hown2.alloc _) ⟨wr.heap.size, 0, none⟩ 1 1 [.int .u8 (L[k].toNat : Int)] rfl rfl one_cell one_is ?d3 ?d4 ?d5 ?_)
            | go_in)
          case d3 => unfold maxLen; omega
          case d4 => omega
          case d5 => have := hbel2.size; simp; omega
          intro v' w1 hown' hgrow _
          have hb' := own_below hown2 hbel2 hbel2.size hgrow
          have ho' : OwnB w1 wA.heap.size v' ((L.drop (k + 1)).reverse ++ [L[k]]) := own_push (zs := [.int .u8 (L[k].toNat : Int)]) (by simp) (by simp [Lib.byteCells]) hown'
          have hr' : (L.drop (k + 1)).reverse ++ [L[k]] = (L.drop k).reverse := by
            rw [List.drop_eq_getElem_cons (l := L) (i := k) (by omega), List.reverse_cons]
          rw [hr'] at ho'
          clear hown' hgrow hown2 hbel2 hr' hcell hlen2
          go_wp2
          go_roundw
          case rel => exact ⟨k, by omega, by go_num, ho', hb'⟩
          case measure => simp [intOf]
    · have hz' : (a == 0) = false := by rw [beq_eq_false_iff_ne]; omega
      have hap : a < 0 := by omega
      obtain ⟨m1, m2, m3⟩ := tmod_neg ha1
      obtain ⟨q1, q2, q3⟩ := tdiv_neg ha1
      have M3 := hide m3
      have Q3 := hide q3
      clear m3 q3
      by_cases hr : a.tmod 10 < 0
      · go_wp2_with (first
          | (at_builtin; refine wpList_append_own _ rfl (.tmp 21) (.tmp 25) 108 rfl w.heap.size 5 i0 (.int .u8 0) 1 1 Tryz.underlying108 hi hz0 hz1 hz2 rfl (by decide) _ _ _ rfl (hown.alloc _) ⟨wr.heap.size, 0, none⟩ 1 1 [.int .u8 (48 + -a.tmod 10)] rfl rfl one_cell one_is ?c3a ?c4a ?c5a ?_)
          | go_in)
        case c3a => unfold maxLen; omega
        case c4a => omega
        case c5a => have := hbel.size; simp; omega
        intro v' w1 hown' hgrow _
        have hb' := own_below hown hbel hbel.size hgrow
        have ho' : OwnB w1 w.heap.size v' (l ++ [UInt8.ofNat (48 + a.natAbs % 10)]) := own_push (zs := [.int .u8 (48 + -a.tmod 10)]) rfl (by have := unhide M3; simp [Lib.byteCells]; omega) hown'
        have hr' : (l ++ [UInt8.ofNat (48 + a.natAbs % 10)]) ++ rd (a.tdiv 10).natAbs = rd n.natAbs := by
          have e := rd_step (a := a.natAbs) (by omega)
          rw [← unhide HRD, e, unhide Q3]; simp
        have HR' := hide hr'
        have hlt : (a.tdiv 10).natAbs < a.natAbs := by have := unhide Q3; omega
        clear hr' hown' hgrow hown hbel
        go_wp2
        go_roundw
        case rel => exact ⟨a.tdiv 10, _, by go_num, by omega, by omega, unhide HR', ho', hb'⟩
        case measure => simpa [intOf] using hlt
      · go_wp2_with (first
          | (at_builtin; refine wpList_append_own _ rfl (.tmp 21) (.tmp 25) 108 rfl w.heap.size 5 i0 (.int .u8 0) 1 1 Tryz.underlying108 hi hz0 hz1 hz2 rfl (by decide) _ _ _ rfl (hown.alloc _) ⟨wr.heap.size, 0, none⟩ 1 1 [.int .u8 (48 + a.tmod 10)] rfl rfl one_cell one_is ?c3b ?c4b ?c5b ?_)
          | go_in)
        case c3b => unfold maxLen; omega
        case c4b => omega
        case c5b => have := hbel.size; simp; omega
        intro v' w1 hown' hgrow _
        have hb' := own_below hown hbel hbel.size hgrow
        have ho' : OwnB w1 w.heap.size v' (l ++ [UInt8.ofNat (48 + a.natAbs % 10)]) := own_push (zs := [.int .u8 (48 + a.tmod 10)]) rfl (by have := unhide M3; simp [Lib.byteCells]; omega) hown'
        have hr' : (l ++ [UInt8.ofNat (48 + a.natAbs % 10)]) ++ rd (a.tdiv 10).natAbs = rd n.natAbs := by
          have e := rd_step (a := a.natAbs) (by omega)
          rw [← unhide HRD, e, unhide Q3]; simp
        have HR' := hide hr'
        have hlt : (a.tdiv 10).natAbs < a.natAbs := by have := unhide Q3; omega
        clear hr' hown' hgrow hown hbel
        go_wp2
        go_roundw
        case rel => exact ⟨a.tdiv 10, _, by go_num, by omega, by omega, unhide HR', ho', hb'⟩
        case measure => simpa [intOf] using hlt

set_option maxRecDepth 20000 in
set_option maxHeartbeats 400000 in
theorem rtext_zero (w : World) :
    Calls Tryz.prog 51 #[.int .i64 0] w fun e w' => e = .returned (.string ⟨(Lib.itoa 0).toArray⟩) ∧ w' = w := by
  rw [itoa_zero]
  go_enter Tryz.func51, Tryz.ntmps51
  go_wp2
  go_ret
  exact ⟨rfl, rfl⟩

theorem rtext_any (n : Int) (w : World) (h0 : -9223372036854775808 ≤ n) (h1 : n ≤ 9223372036854775807) :
    Calls Tryz.prog 51 #[.int .i64 n] w fun e w' => e = .returned (.string ⟨(Lib.itoa n).toArray⟩) ∧ Below w.heap.size w w' := by
  rcases Int.lt_trichotomy n 0 with h | h | h
  · exact rtext_neg n w h h0
  · subst h
    exact (rtext_zero w).mono fun e w' ⟨he, hw⟩ => ⟨he, by rw [hw]; exact Below.refl _ _⟩
  · exact rtext_pos n w h h1

end Go.Proofs.YtlbpeknncakfeaaGreatDoor

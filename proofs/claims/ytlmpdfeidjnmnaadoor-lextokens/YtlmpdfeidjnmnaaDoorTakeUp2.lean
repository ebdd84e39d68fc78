/-
  A text in place: the lexer's 'takeUp', where nothing is wrong.
-/
import Derived.Test.YtlmpdfeidjnmnaaDoorState
import Derived.Deep.RegionHeld3
namespace Go.Proofs.YtlmpdfeidjnmnaaDoor
open Go.RowKit

/-- How 'takeUp' ends. -/
def TkEnd (w : World) (b : Nat) (tl : List Value) (s : ByteArray) (d q : Nat) (t : Tok) (T : Option (List UInt8 × List UInt8)) (e : Ending) (w' : World) : Prop :=
  e = .returned (.tuple #[]) ∧ ∃ r, match T with
    | some (body, rest) => s.data.toList.drop r = rest ∧ Rdr w' b 53 tl s r d 0 0 ∧ GrownS w w' (fun x => x = b ∨ x = q) ∧ Blk w' q 37 ({ t with body := BA body } : Tok).cells
    | none => s.data.toList.drop r = [] ∧ Rdr w' b 53 tl s r d 12 t.pos ∧ GrownS w w' (fun x => x = b)

theorem takeL_nil (f : Nat) (tabs : Bool) (en acc : List UInt8) : takeL f tabs en [] acc = none := by cases f <;> rfl

theorem bldAt_grownS {T e : TypeId} {B bb : Nat} {x : Value} {bs : List Value} {w w1 : World} {S : Nat → Prop} (h : Lib.BuilderAt T e B bb x bs w) (hg : GrownS w w1 S) (hS : ∀ y, S y → y < B) : Lib.BuilderAt T e B bb x bs w1 := by
  obtain ⟨h1, v, h2, h3, h4⟩ := h
  refine ⟨h1, v, (hg.block bb (Array.getElem?_eq_some_iff.1 h2).1 (fun e => by have := hS bb e; omega)).trans h2, own_grownS h3 hg (fun y hy e => ?_), h4⟩
  have a1 := (World.ownsRow.lt h3 y hy).1
  have a2 := hS y e
  omega
theorem bld_grownS {T e : TypeId} {B bb : Nat} {bs : List Value} {w w1 : World} {S : Nat → Prop} (h : Lib.IsBuilder T e B bb bs w) (hg : GrownS w w1 S) (hS : ∀ y, S y → y < B) : Lib.IsBuilder T e B bb bs w1 := by
  rcases h with h | h
  · exact .inl (bldAt_grownS h hg hS)
  · exact .inr (bldAt_grownS h hg hS)
theorem grownS_below {w w2 w5 : World} {S : Nat → Prop} (h : GrownS w w2 S) (hb : Below w.heap.size w2 w5) : GrownS w w5 S :=
  ⟨hb.os.trans h.os, hb.tape.trans h.tape, hb.output.trans h.output, Nat.le_trans h.size hb.size, fun k hk hn => (hb.block k hk).trans (h.block k hk hn)⟩
theorem take_len {l : List UInt8} (hl : l ≠ []) : (l.takeWhile (fun x => x != 10)).length + 1 + 2 * ((l.dropWhile (fun x => x != 10)).drop 1).length ≤ 2 * l.length := by
  have h := congrArg List.length (List.takeWhile_append_dropWhile (p := fun x => x != 10) (l := l))
  rw [List.length_append] at h
  rw [List.length_drop]
  have : 0 < l.length := List.length_pos_iff.2 hl
  omega
theorem trim_len (l : List UInt8) (c : UInt8) : (Lib.trimLeftB l c).length ≤ l.length := (List.dropWhile_sublist _).length_le
theorem takeL_hit {f : Nat} {tabs : Bool} {en l acc L : List UInt8} (hl : l ≠ []) (hL : L = if tabs then Lib.trimLeftB (l.takeWhile (fun x => x != 10)) 9 else l.takeWhile (fun x => x != 10)) : takeL (f + 1) tabs en l acc = if L = en then some (acc, (l.dropWhile (fun x => x != 10)).drop 1) else takeL f tabs en ((l.dropWhile (fun x => x != 10)).drop 1) (acc ++ L ++ [10]) := by
  cases l with
  | nil => exact absurd rfl hl
  | cons c r => rw [hL]; rfl

set_option maxRecDepth 20000 in
set_option maxHeartbeats 4000000 in
theorem takeUp_any (w : World) (b : Nat) (tl : List Value) (s : ByteArray) (p d : Nat) (k q : Nat) (en : List UInt8) (tabs : Bool) (t : Tok) (m : Int) (h : Rdr w b 53 tl s p d 0 0) (hk : Blk w k 57 (wtCells q (BA en) tabs)) (hq : Blk w q 37 t.cells) (hm : w.cell? ⟨1, 0, none⟩ = some (.int .i64 m)) (hb1 : 1 < b) :
    Calls Tryd.prog 51 #[.pointer (some ⟨b, 0, none⟩), .pointer (some ⟨k, 0, none⟩)] w fun e w' => TkEnd w b tl s d q t (takeL (s.size - p + 1) tabs en (s.data.toList.drop p) []) e w' := by
  obtain ⟨T, hT⟩ : ∃ T, T = takeL (s.size - p + 1) tabs en (s.data.toList.drop p) [] := ⟨_, rfl⟩
  rw [← hT]
  have hkb : k ≠ b := fun e => by
    rw [e] at hk
    have := hk.symm.trans h.blk
    simp at this
  have hqb : q ≠ b := fun e => by
    rw [e] at hq
    have := hq.symm.trans h.blk
    simp at this
  have hkq : ¬ k = q := fun e => by
    rw [e] at hk
    have := hk.symm.trans hq
    simp at this
  have HT := hide hT.symm
  have H := hide h
  have HK := hide hk
  have HQ := hide hq
  have HM := hide hm
  have hbl := h.blk.lt
  have HKL := hide hk.lt
  have HQL := hide hq.lt
  clear hT h hk hq hm
  go_enter Tryd.func51, Tryd.ntmps51
  go_wp2_with fail
  go_loopw [9] (fun _ wr => ∃ (r F : Nat) (acc : List UInt8), Hid (s.size - r + 1 ≤ F ∧ acc.length ≤ 2 * r ∧ takeL F tabs en (s.data.toList.drop r) acc = T) ∧ Hid (Rdr wr b 53 tl s r d 0 0) ∧ Hid (Lib.IsBuilder 89 5 w.heap.size w.heap.size (Lib.byteCells acc) wr) ∧ Hid (GrownS w wr (fun x => x = b))) (fun _ wr => s.size - atOf b wr)
  case atStart => exact ⟨p, s.size - p + 1, [], hide ⟨Nat.le_refl _, by simp, unhide HT⟩, hide ((unhide H).kept (World.grownBy_alloc w _ none)), hide (Lib.fresh_isBuilder _ _ w), hide (GrownS.of (World.grownBy_alloc w _ none) (by simp))⟩
  case round =>
    obtain ⟨r, F, acc, HF, HR, HBU, HG⟩ := hrel
    by_cases hlt : r < s.size
    · have hmo := more_any (unhide HR)
      rw [show moreB s r 0 = true by unfold moreB; simp [hlt]] at hmo
      have HMO := hide hmo
      clear hmo
      go_wp2_with fail
      refine (unhide HMO).mono ?_
      rintro en1 w1 ⟨rfl, k1, hw1⟩
      have HR1 : Hid (Rdr w1 b 53 tl s r d 0 0) := hide (by rw [hw1]; exact (unhide HR).kept (grown_drewN _ _))
      have HG1 : Hid (GrownS w w1 (fun x => x = b)) := hide (by rw [hw1]; exact (unhide HG).trans (GrownS.of (grown_drewN _ _) (by simp)))
      have HB1 : Hid (Lib.IsBuilder 89 5 w.heap.size w.heap.size (Lib.byteCells acc) w1) := hide (bld_grownS (S := fun _ => False) (unhide HBU) (by rw [hw1]; exact GrownS.of (grown_drewN _ _) (by simp)) (fun _ e => e.elim))
      have HAT : Hid (atOf b wr = r) := hide (unhide HR).at
      clear hw1 HMO HR HG HBU
      have h1b : w1.cell? ⟨1, 0, none⟩ = some (.int .i64 m) := by
        rw [World.cell?_of_block ((unhide HG1).block 1 (by omega) (by omega))]
        exact unhide HM
      have HLI := hide (line_any w1 b tl s r d m (unhide HR1) h1b)
      clear h1b
      go_wp2_with fail
      refine (unhide HLI).mono ?_
      rintro en2 w2 ⟨rfl, g2, r2, hr2, h2⟩
      have HG2 := hide ((unhide HG1).trans (GrownS.of g2 (fun x e => by simpa using e)))
      have HB2 := hide (bld_grownS (S := fun x => x = b) (unhide HB1) (GrownS.of g2 (fun x e => by simpa using e)) (fun y e => by rw [e]; exact hbl))
      have HR2 := hide h2
      have HL2 := hide hr2
      clear g2 h2 hr2 HLI HR1 HG1 HB1
      obtain ⟨A, hA⟩ : ∃ A, A = (s.data.toList.drop r).takeWhile (fun x => x != 10) := ⟨_, rfl⟩
      rw [← hA]
      have HA := hide hA
      clear hA
      have k0 : w2.cell? ⟨k, 0, none⟩ = some (.pointer (some ⟨q, 0, none⟩)) := ((unhide HK).grownS (unhide HG2) hkb).cell 0 rfl
      have k1' : w2.cell? ⟨k, 1, none⟩ = some (.string (BA en)) := ((unhide HK).grownS (unhide HG2) hkb).cell 1 rfl
      have k2 : w2.cell? ⟨k, 2, none⟩ = some (.bool tabs) := ((unhide HK).grownS (unhide HG2) hkb).cell 2 rfl
      cases tabs with
      | true =>
        obtain ⟨L, hL⟩ : ∃ L, L = Lib.trimLeftB A 9 := ⟨_, rfl⟩
        have HTR : Hid (Calls Tryd.prog 60 #[.string (BA A), .string ⟨#[9]⟩] w2 fun e w' => e = .returned (.string (BA L)) ∧ w' = w2) := hide (by rw [hL]; exact Tryd.strings_TrimLeft_one (BA A) 9 (by decide) w2)
        have HLL := hide hL
        clear hL
        go_wp2_with fail
        refine (unhide HTR).mono ?_
        rintro en3 w3 ⟨rfl, hw3⟩
        rw [show w3 = w2 from hw3]
        clear hw3 HTR
        obtain ⟨F, rfl⟩ : ∃ g, F = g + 1 := ⟨F - 1, by have := (unhide HF).1; omega⟩
        have hne : s.data.toList.drop r ≠ [] := by rw [drop_at hlt]; simp
        have HTK := hide (takeL_hit (f := F) (tabs := true) (en := en) (acc := acc) (L := L) hne (by rw [unhide HLL, unhide HA]; rfl))
        have HLN : Hid (L.length + 1 + 2 * (s.data.toList.drop r2).length ≤ 2 * (s.data.toList.drop r).length) := hide (by
          have a1 := take_len hne
          rw [unhide HL2]
          have a2 : L.length ≤ A.length := by rw [unhide HLL]; exact trim_len _ _
          rw [unhide HA] at a2
          omega)
        clear hne
        by_cases hLe : L = en
        · have hc : ((BA L).toList == (BA en).toList) = true := by rw [hLe]; exact beq_self_eq_true _
          have HTS : Hid (T = some (acc, s.data.toList.drop r2)) := hide (by rw [← (unhide HF).2.2, unhide HTK, if_pos hLe, unhide HL2])
          have hszw : w.heap.size ≤ w2.heap.size := (unhide HG2).size
          clear hLe HLN
          go_wp2_with fail
          go_region_held3 (fun w' => w'.cell? ⟨k, 0, none⟩ = some (.pointer (some ⟨q, 0, none⟩))) (go_keep) (first
            | (go_at_call 61
               refine (Tryd.Builder_String_any w.heap.size w.heap.size acc _ (bld_grownS (S := fun _ => False) (unhide HB2) (GrownS.of (grown_drewN _ 1) (by simp)) (fun _ e => e.elim)) hszw).mono ?_
               rintro en5 w5 ⟨rfl, b5⟩
               have g5 := grownS_below ((unhide HG2).trans (GrownS.of (grown_drewN _ 1) (by simp))) b5
               have y1 : w5.cell? ⟨k, 0, none⟩ = some (.pointer (some ⟨q, 0, none⟩)) := ((unhide HK).grownS g5 hkb).cell 0 rfl
               have y4 : (w5.setCell ⟨q, 3, none⟩ (.string ⟨acc.toArray⟩)).cell? ⟨k, 0, none⟩ = some (.pointer (some ⟨q, 0, none⟩)) := (((unhide HK).grownS g5 hkb).other (a := ⟨q, 3, none⟩) hkq _).cell 0 rfl
               have hq5 := (unhide HQ).grownS g5 hqb
               have y3 : w5.cell? ⟨q, 3, none⟩ = some (.string t.body) := hq5.cell 3 rfl
               have z3 := hq5.frozen 3
               have HQ5 := hide hq5
               have HR5 : Hid (Rdr w5 b 53 tl s r2 d 0 0) := hide ⟨(((unhide HR2).kept (grown_drewN _ 1)).blk).below b5 hbl, (unhide HR2).le, (unhide HR2).len, (unhide HR2).dle⟩
               have G5 := hide g5
               clear g5 hq5 b5))
          all_goals
            go_wp2
            refine bodyPost_end (res0 rfl _ _) rfl ?_
            rw [unhide HTS]
            refine ⟨rfl, r2, rfl, ⟨(unhide HR5).blk.other (a := ⟨q, 3, none⟩) (fun e => hqb e.symm) _, (unhide HR5).le, (unhide HR5).len, (unhide HR5).dle⟩, ((unhide G5).mono (fun _ _ e => .inl e)).trans (GrownS.of (grown_setCell _ ⟨q, 3, none⟩ _) (fun x e => .inr (by simpa using e))), ?_⟩
            exact (unhide HQ5).set 3 (.string (BA acc))
        · have hc : ((BA L).toList == (BA en).toList) = false := by
            rw [beq_eq_false_iff_ne, ByteArray.toList_eq, ByteArray.toList_eq]
            exact hLe
          have HTS : Hid (takeL F true en (s.data.toList.drop r2) (acc ++ L ++ [10]) = T) := hide (by rw [← (unhide HF).2.2, unhide HTK, if_neg hLe, unhide HL2])
          have hr2s := (unhide HR2).le
          have hsl := (unhide HR2).len
          have hln : L.length + 1 + 2 * (s.size - r2) ≤ 2 * (s.size - r) := by
            have := unhide HLN
            rw [List.length_drop, List.length_drop, data_len] at this
            exact this
          have hac := (unhide HF).2.1
          have hLs : (BA L).size ≤ 200000 := by rw [BA_size]; omega
          have HW := hide (write_any w.heap.size w.heap.size acc (BA L ++ ⟨#[10]⟩) w2 (unhide HB2) (by rw [ByteArray.size_append, BA_size]; show acc.length + (L.length + 1) ≤ _; omega) (unhide HG2).size)
          clear hLe HLN
          go_wp2_with fail
          refine (unhide HW).mono ?_
          rintro en6 w6 ⟨rfl, hb6, b6⟩
          have g6 := grownS_below (unhide HG2) b6
          have hr6 : Rdr w6 b 53 tl s r2 d 0 0 := ⟨(unhide HR2).blk.below b6 hbl, (unhide HR2).le, (unhide HR2).len, (unhide HR2).dle⟩
          have HB6 : Hid (Lib.IsBuilder 89 5 w.heap.size w.heap.size (Lib.byteCells (acc ++ L ++ [10])) w6) := hide (by
            rw [List.append_assoc, show L ++ [10] = (BA L ++ ⟨#[10]⟩).data.toList by simp [BA]]; exact hb6)
          have HR6 := hide hr6
          have HG6 := hide g6
          clear hb6 b6 g6 hr6 HW
          go_wp2
          go_roundw
          case rel => exact ⟨r2, F, acc ++ L ++ [10], hide ⟨by have := (unhide HF).1; omega, by rw [List.length_append, List.length_append]; show acc.length + L.length + 1 ≤ _; omega, unhide HTS⟩, HR6, HB6, HG6⟩
          case measure =>
            rw [(unhide HR6).at, unhide HAT]
            omega
      | false =>
        obtain ⟨L, hL⟩ : ∃ L, L = A := ⟨_, rfl⟩
        have HLL := hide hL
        rw [← hL]
        clear hL
        obtain ⟨F, rfl⟩ : ∃ g, F = g + 1 := ⟨F - 1, by have := (unhide HF).1; omega⟩
        have hne : s.data.toList.drop r ≠ [] := by rw [drop_at hlt]; simp
        have HTK := hide (takeL_hit (f := F) (tabs := false) (en := en) (acc := acc) (L := L) hne (by rw [unhide HLL, unhide HA]; rfl))
        have HLN : Hid (L.length + 1 + 2 * (s.data.toList.drop r2).length ≤ 2 * (s.data.toList.drop r).length) := hide (by
          have a1 := take_len hne
          rw [unhide HL2]
          have a2 : L.length ≤ A.length := by rw [unhide HLL]; exact Nat.le_refl _
          rw [unhide HA] at a2
          omega)
        clear hne
        by_cases hLe : L = en
        · have hc : ((BA L).toList == (BA en).toList) = true := by rw [hLe]; exact beq_self_eq_true _
          have HTS : Hid (T = some (acc, s.data.toList.drop r2)) := hide (by rw [← (unhide HF).2.2, unhide HTK, if_pos hLe, unhide HL2])
          have hszw : w.heap.size ≤ w2.heap.size := (unhide HG2).size
          clear hLe HLN
          go_wp2_with fail
          go_region_held3 (fun w' => w'.cell? ⟨k, 0, none⟩ = some (.pointer (some ⟨q, 0, none⟩))) (go_keep) (first
            | (go_at_call 61
               refine (Tryd.Builder_String_any w.heap.size w.heap.size acc _ (bld_grownS (S := fun _ => False) (unhide HB2) (GrownS.of (grown_drewN _ 1) (by simp)) (fun _ e => e.elim)) hszw).mono ?_
               rintro en5 w5 ⟨rfl, b5⟩
               have g5 := grownS_below ((unhide HG2).trans (GrownS.of (grown_drewN _ 1) (by simp))) b5
               have y1 : w5.cell? ⟨k, 0, none⟩ = some (.pointer (some ⟨q, 0, none⟩)) := ((unhide HK).grownS g5 hkb).cell 0 rfl
               have y4 : (w5.setCell ⟨q, 3, none⟩ (.string ⟨acc.toArray⟩)).cell? ⟨k, 0, none⟩ = some (.pointer (some ⟨q, 0, none⟩)) := (((unhide HK).grownS g5 hkb).other (a := ⟨q, 3, none⟩) hkq _).cell 0 rfl
               have hq5 := (unhide HQ).grownS g5 hqb
               have y3 : w5.cell? ⟨q, 3, none⟩ = some (.string t.body) := hq5.cell 3 rfl
               have z3 := hq5.frozen 3
               have HQ5 := hide hq5
               have HR5 : Hid (Rdr w5 b 53 tl s r2 d 0 0) := hide ⟨(((unhide HR2).kept (grown_drewN _ 1)).blk).below b5 hbl, (unhide HR2).le, (unhide HR2).len, (unhide HR2).dle⟩
               have G5 := hide g5
               clear g5 hq5 b5))
          all_goals
            go_wp2
            refine bodyPost_end (res0 rfl _ _) rfl ?_
            rw [unhide HTS]
            refine ⟨rfl, r2, rfl, ⟨(unhide HR5).blk.other (a := ⟨q, 3, none⟩) (fun e => hqb e.symm) _, (unhide HR5).le, (unhide HR5).len, (unhide HR5).dle⟩, ((unhide G5).mono (fun _ _ e => .inl e)).trans (GrownS.of (grown_setCell _ ⟨q, 3, none⟩ _) (fun x e => .inr (by simpa using e))), ?_⟩
            exact (unhide HQ5).set 3 (.string (BA acc))
        · have hc : ((BA L).toList == (BA en).toList) = false := by
            rw [beq_eq_false_iff_ne, ByteArray.toList_eq, ByteArray.toList_eq]
            exact hLe
          have HTS : Hid (takeL F false en (s.data.toList.drop r2) (acc ++ L ++ [10]) = T) := hide (by rw [← (unhide HF).2.2, unhide HTK, if_neg hLe, unhide HL2])
          have hr2s := (unhide HR2).le
          have hsl := (unhide HR2).len
          have hln : L.length + 1 + 2 * (s.size - r2) ≤ 2 * (s.size - r) := by
            have := unhide HLN
            rw [List.length_drop, List.length_drop, data_len] at this
            exact this
          have hac := (unhide HF).2.1
          have hLs : (BA L).size ≤ 200000 := by rw [BA_size]; omega
          have HW := hide (write_any w.heap.size w.heap.size acc (BA L ++ ⟨#[10]⟩) w2 (unhide HB2) (by rw [ByteArray.size_append, BA_size]; show acc.length + (L.length + 1) ≤ _; omega) (unhide HG2).size)
          clear hLe HLN
          go_wp2_with fail
          refine (unhide HW).mono ?_
          rintro en6 w6 ⟨rfl, hb6, b6⟩
          have g6 := grownS_below (unhide HG2) b6
          have hr6 : Rdr w6 b 53 tl s r2 d 0 0 := ⟨(unhide HR2).blk.below b6 hbl, (unhide HR2).le, (unhide HR2).len, (unhide HR2).dle⟩
          have HB6 : Hid (Lib.IsBuilder 89 5 w.heap.size w.heap.size (Lib.byteCells (acc ++ L ++ [10])) w6) := hide (by
            rw [List.append_assoc, show L ++ [10] = (BA L ++ ⟨#[10]⟩).data.toList by simp [BA]]; exact hb6)
          have HR6 := hide hr6
          have HG6 := hide g6
          clear hb6 b6 g6 hr6 HW
          go_wp2
          go_roundw
          case rel => exact ⟨r2, F, acc ++ L ++ [10], hide ⟨by have := (unhide HF).1; omega, by rw [List.length_append, List.length_append]; show acc.length + L.length + 1 ≤ _; omega, unhide HTS⟩, HR6, HB6, HG6⟩
          case measure =>
            rw [(unhide HR6).at, unhide HAT]
            omega
    · have hmo := more_any (unhide HR)
      rw [show moreB s r 0 = false by unfold moreB; simp [hlt]] at hmo
      have HMO := hide hmo
      have HTN : Hid (T = none) := hide (by rw [← (unhide HF).2.2, drop_nil (by omega), takeL_nil])
      have k0 : wr.cell? ⟨k, 0, none⟩ = some (.pointer (some ⟨q, 0, none⟩)) := ((unhide HK).grownS (unhide HG) hkb).cell 0 rfl
      have q2 : wr.cell? ⟨q, 2, none⟩ = some (.int .i64 t.pos) := ((unhide HQ).grownS (unhide HG) hqb).cell 2 rfl
      clear hmo
      go_wp2_with fail
      refine (unhide HMO).mono ?_
      rintro en w1 ⟨rfl, k1, hw1⟩
      have k0' : w1.cell? ⟨k, 0, none⟩ = some (.pointer (some ⟨q, 0, none⟩)) := by rw [hw1]; exact k0
      have q2' : w1.cell? ⟨q, 2, none⟩ = some (.int .i64 t.pos) := by rw [hw1]; exact q2
      have HR1 : Hid (Rdr w1 b 53 tl s r d 0 0) := hide (by rw [hw1]; exact (unhide HR).kept (grown_drewN _ _))
      have HG1 : Hid (GrownS w w1 (fun x => x = b)) := hide (by rw [hw1]; exact (unhide HG).trans (GrownS.of (grown_drewN _ _) (by simp)))
      clear hw1 k0 q2
      go_wp2_with fail
      go_region_held3 (fun w' => w'.cell? ⟨k, 0, none⟩ = some (.pointer (some ⟨q, 0, none⟩)) ∧ w'.cell? ⟨q, 2, none⟩ = some (.int .i64 t.pos)) (go_keep) (first
        | (go_at_call 21
           refine (fail_any 12 t.pos ((unhide HR1).kept (grown_drewN _ 1))).mono ?_
           rintro en w3 ⟨rfl, h3, g3⟩
           have g4 := (unhide HG1).trans ((GrownS.of (grown_drewN _ 1) (by simp)).trans (GrownS.of g3 (fun x e => by simpa using e)))
           have y1 : w3.cell? ⟨k, 0, none⟩ = some (.pointer (some ⟨q, 0, none⟩)) := ((unhide HK).grownS g4 hkb).cell 0 rfl
           have y2 : w3.cell? ⟨q, 2, none⟩ = some (.int .i64 t.pos) := ((unhide HQ).grownS g4 hqb).cell 2 rfl
           have H3 := hide h3
           have G3 := hide g4
           clear h3 g3 g4))
      go_wp2
      refine bodyPost_end (res0 rfl _ _) rfl ?_
      rw [unhide HTN]
      exact ⟨rfl, r, drop_nil (by omega), unhide H3, unhide G3⟩

end Go.Proofs.YtlmpdfeidjnmnaaDoor

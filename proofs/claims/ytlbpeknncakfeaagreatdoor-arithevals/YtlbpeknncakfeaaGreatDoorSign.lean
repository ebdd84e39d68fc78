/-
  The sign by which a name is set: 'settingSign'.
-/
import Derived.Test.YtlbpeknncakfeaaGreatDoorRd
namespace Go.Proofs.YtlbpeknncakfeaaGreatDoor
open Go.RowKit Go.Maps

/-- Whether the text at the front is this sign, and what is behind it. -/
def signAt (op : List UInt8) (l : List UInt8) : Option (List UInt8) :=
  if Lib.hasPrefix l (op ++ [61]) && !Lib.hasPrefix (Lib.trimPrefix l (op ++ [61])) [61] then some (Lib.trimPrefix l (op ++ [61])) else none
def setOps : List (List UInt8) := [[], [43], [45], [42], [47], [37]]
def signIn (l : List UInt8) : List (List UInt8) → Option (List UInt8 × List UInt8)
  | [] => none
  | op :: r => match signAt op l with
    | some b => some (op, b)
    | none => signIn l r
/-- The operator within the setting sign at the front, and what is behind the sign. -/
def setSign (l : List UInt8) : Option (List UInt8 × List UInt8) := signIn (sk l) setOps
def SignEnd (r : Option (List UInt8 × List UInt8)) (e : Ending) : Prop := match r with
  | some (op, b) => e = .returned (.tuple #[.string (BA op), .string (BA b), .bool true])
  | none => e = .returned (.tuple #[.string (BA []), .string (BA []), .bool false])

theorem signIn_len {l : List UInt8} {x : List UInt8 × List UInt8} : ∀ {r : List (List UInt8)}, signIn l r = some x → x.2.length < l.length ∧ x.1 ∈ r
  | [], h => by cases h
  | op :: r, h => by
    unfold signIn at h
    split at h
    · next b hb =>
      cases h
      unfold signAt at hb
      split at hb
      · next hc =>
        cases hb
        simp only [Bool.and_eq_true] at hc
        refine ⟨?_, by simp⟩
        show (Lib.trimPrefix l (op ++ [61])).length < l.length
        unfold Lib.trimPrefix
        rw [if_pos hc.1]
        have := List.IsPrefix.length_le (List.isPrefixOf_iff_prefix.1 hc.1)
        simp at this ⊢
        omega
      · cases hb
    · have := signIn_len h
      exact ⟨this.1, List.mem_cons_of_mem _ this.2⟩

theorem signIn_no {op l : List UInt8} (h : signAt op l = none) (r : List (List UInt8)) : signIn l (op :: r) = signIn l r := by
  show (match signAt op l with | some b => some (op, b) | none => signIn l r) = _
  rw [h]
theorem signAt_no1 {op l : List UInt8} (h : Lib.hasPrefix l (op ++ [61]) = false) : signAt op l = none := by
  unfold signAt; rw [h]; rfl
theorem signAt_no2 {op l : List UInt8} (h : Lib.hasPrefix l (op ++ [61]) = true) (h2 : Lib.hasPrefix (Lib.trimPrefix l (op ++ [61])) [61] = true) : signAt op l = none := by
  unfold signAt; rw [h, h2]; rfl
theorem cat_list (op : List UInt8) : (BA op ++ (⟨#[61]⟩ : ByteArray)).data.toList = op ++ [61] := by
  simp [BA]

set_option maxRecDepth 20000 in
set_option maxHeartbeats 2000000 in
theorem settingSign_any (l : List UInt8) (w : World) :
    Calls Tryz.prog 86 #[.string (BA l)] w fun e w' => SignEnd (setSign l) e ∧ w.grownBy w' none := by
  go_enter Tryz.func86, Tryz.ntmps86
  go_wp2_with fail
  refine (trimLeft_any (BA l) w).mono ?_
  rintro e w1 ⟨rfl, bb1⟩
  rw [trimL_BA]
  have B1 := hide bb1
  clear bb1
  go_wp2_with fail
  obtain ⟨w2, hw2⟩ : ∃ x, x = w1.alloc (.cells #[.string ⟨#[]⟩, .string ⟨#[43]⟩, .string ⟨#[45]⟩, .string ⟨#[42]⟩, .string ⟨#[47]⟩, .string ⟨#[37]⟩] 9) := ⟨_, rfl⟩
  have G2 : Hid (w.grownBy w2 none) := hide ((grown_of_below (unhide B1)).trans (by rw [hw2]; exact World.grownBy_alloc _ _ _))
  have hB : Blk w2 w1.heap.size 9 #[.string ⟨#[]⟩, .string ⟨#[43]⟩, .string ⟨#[45]⟩, .string ⟨#[42]⟩, .string ⟨#[47]⟩, .string ⟨#[37]⟩] := by rw [hw2]; exact Blk.new _ _ _
  have HB : Hid (∀ k (hk : k < 6), w2.cell? ⟨w1.heap.size, k, none⟩ = some (.string (BA (setOps[k]'hk)))) := hide (by
    intro k hk
    refine hB.cell k ?_
    match k, hk with
    | 0, _ => rfl
    | 1, _ => rfl
    | 2, _ => rfl
    | 3, _ => rfl
    | 4, _ => rfl
    | 5, _ => rfl)
  rw [← hw2]
  clear hB hw2 B1
  go_loop [13] (fun i => ∃ k : Nat, k ≤ 6 ∧ i = .int .i64 k ∧ Hid (setSign l = signIn (sk l) (setOps.drop k))) (fun i => 6 - (intOf i).toNat)
  case atStart => exact ⟨0, by omega, rfl, hide rfl⟩
  case round =>
    obtain ⟨k, hk, rfl, HS⟩ := hrel
    by_cases hlt : k < 6
    · have hc := unhide HB k hlt
      obtain ⟨op, hop⟩ : ∃ op, op = setOps[k]'hlt := ⟨_, rfl⟩
      have hol : ¬9223372036854775807 < op.length + 1 := by
        have : ∀ x ∈ setOps, x.length ≤ 1 := by decide
        have := this op (by rw [hop]; exact List.getElem_mem hlt)
        omega
      have HD : Hid (setOps.drop k = op :: setOps.drop (k + 1)) := hide (by rw [hop]; exact List.drop_eq_getElem_cons hlt)
      rw [← hop] at hc
      clear hop
      rcases Bool.eq_false_or_eq_true (Lib.hasPrefix (sk l) (op ++ [61])) with hp | hp
      · rcases Bool.eq_false_or_eq_true (Lib.hasPrefix (Lib.trimPrefix (sk l) (op ++ [61])) [61]) with hq | hq
        · go_wp2_with fail
          refine (Tryz.strings_CutPrefix _ _ _).mono ?_
          rintro ee x1 ⟨rfl, hx1⟩
          have hx2 := hx1.symm
          subst hx2
          clear hx1
          rw [BA_list, cat_list, hp]
          go_wp2_with fail
          refine (Tryz.strings_HasPrefix _ ⟨#[61]⟩ _).mono ?_
          rintro ee x1 ⟨rfl, hx1⟩
          have hx2 := hx1.symm
          subst hx2
          clear hx1
          rw [show Lib.hasPrefix (⟨(Lib.trimPrefix (sk l) (op ++ [61])).toArray⟩ : ByteArray).data.toList (⟨#[61]⟩ : ByteArray).data.toList = true from hq]
          go_wp2
          go_round
          case rel => exact ⟨k + 1, by omega, by go_num, hide (by rw [unhide HS, unhide HD]; exact signIn_no (signAt_no2 hp hq) _)⟩
          case measure => simp [intOf]; omega
        · go_wp2_with fail
          refine (Tryz.strings_CutPrefix _ _ _).mono ?_
          rintro ee x1 ⟨rfl, hx1⟩
          have hx2 := hx1.symm
          subst hx2
          clear hx1
          rw [BA_list, cat_list, hp]
          go_wp2_with fail
          refine (Tryz.strings_HasPrefix _ ⟨#[61]⟩ _).mono ?_
          rintro ee x1 ⟨rfl, hx1⟩
          have hx2 := hx1.symm
          subst hx2
          clear hx1
          rw [show Lib.hasPrefix (⟨(Lib.trimPrefix (sk l) (op ++ [61])).toArray⟩ : ByteArray).data.toList (⟨#[61]⟩ : ByteArray).data.toList = false from hq]
          go_wp2
          go_ret3
          refine ⟨?_, unhide G2⟩
          rw [unhide HS, unhide HD]
          show SignEnd (signIn (sk l) (op :: setOps.drop (k + 1))) _
          unfold signIn signAt
          rw [hp, hq]
          rfl
      · go_wp2_with fail
        refine (Tryz.strings_CutPrefix _ _ _).mono ?_
        rintro ee x1 ⟨rfl, hx1⟩
        have hx2 := hx1.symm
        subst hx2
        clear hx1
        rw [BA_list, cat_list, hp]
        go_wp2
        go_round
        case rel => exact ⟨k + 1, by omega, by go_num, hide (by rw [unhide HS, unhide HD]; exact signIn_no (signAt_no1 hp) _)⟩
        case measure => simp [intOf]; omega
    · have hk6 : k = 6 := by omega
      subst hk6
      go_wp2
      go_ret3
      refine ⟨?_, unhide G2⟩
      rw [unhide HS]
      rfl

end Go.Proofs.YtlbpeknncakfeaaGreatDoor

/-
  The contract of 'Value'.
-/
import Derived.Test.YtlbpeknncakfeaaGreatDoorNumber
import Derived.Shelf.Strings.SlTrimAscii
namespace Go.Proofs.YtlbpeknncakfeaaGreatDoor
open Go.RowKit

def gaps : List UInt8 := [32, 9, 10]
def trimT (s : ByteArray) : ByteArray := ⟨(Lib.trimS s.data.toList gaps).toArray⟩
def trimL (s : ByteArray) : ByteArray := ⟨(Lib.trimLeftS s.data.toList gaps).toArray⟩
theorem trim_any (s : ByteArray) (w : World) (hs : s.size ≤ 100000) : Calls Tryz.prog 18 #[.string s, .string ⟨#[32, 9, 10]⟩] w fun e w' => e = .returned (.string (trimT s)) ∧ Below w.heap.size w w' :=
  Any.strings_Trim_laid Tryz.lays160 (by kernel_rfl) s ⟨#[32, 9, 10]⟩ w (by omega) (by decide) (ascii_of_all (by decide))
theorem trimLeft_any (s : ByteArray) (w : World) : Calls Tryz.prog 90 #[.string s, .string ⟨#[32, 9, 10]⟩] w fun e w' => e = .returned (.string (trimL s)) ∧ Below w.heap.size w w' :=
  Any.strings_TrimLeft_laid Tryz.lays161 (by kernel_rfl) s ⟨#[32, 9, 10]⟩ w (by decide) (ascii_of_all (by decide))
theorem dropWhile_len {α : Type} (p : α → Bool) (l : List α) : (l.dropWhile p).length ≤ l.length := by
  induction l with
  | nil => simp
  | cons x l ih => rw [List.dropWhile_cons]; split <;> simp <;> omega
theorem trimL_size (s : ByteArray) : (trimL s).size ≤ s.size := by
  have h := dropWhile_len (gaps.contains ·) s.data.toList
  show ((Lib.trimLeftS s.data.toList gaps).toArray).size ≤ s.data.size
  rw [List.size_toArray]
  exact h
theorem trimT_size (s : ByteArray) : (trimT s).size ≤ s.size := by
  show ((Lib.trimS s.data.toList gaps).toArray).size ≤ s.data.size
  rw [List.size_toArray]
  unfold Lib.trimS Lib.trimLeftS Lib.trimRightS
  have h1 := dropWhile_len (gaps.contains ·) (s.data.toList.reverse.dropWhile (gaps.contains ·)).reverse
  have h2 := dropWhile_len (gaps.contains ·) s.data.toList.reverse
  rw [List.length_reverse] at h1 h2
  have h3 : s.data.toList.length = s.data.size := by simp
  omega

/-- A word without one sign at its front. -/
def cutP (c : UInt8) (t : ByteArray) : ByteArray := ⟨(Lib.trimPrefix t.data.toList [c]).toArray⟩
theorem cutP_size (c : UInt8) (t : ByteArray) : (cutP c t).size ≤ t.size := by
  show ((Lib.trimPrefix t.data.toList [c]).toArray).size ≤ t.data.size
  unfold Lib.trimPrefix
  split <;> simp

/-- The number that a variable's value is. -/
def valS (s : ByteArray) : Option Int :=
  if (trimT s).size = 0 then some 0
  else if Lib.hasPrefix (trimT s).data.toList [45] then (atMost 9223372036854775808 (numW (cutP 45 (trimT s)))).map (fun n => -n)
  else atMost 9223372036854775807 (numW (cutP 43 (trimT s)))
def ValEnd (r : Option Int) (e : Ending) : Prop := match r with
  | some n => e = .returned (.tuple #[.int .i64 n, .int .i64 0])
  | none => e = .returned (.tuple #[.int .i64 0, .int .i64 10])

theorem dgt_nonneg (c : Int) : 0 ≤ dgt c := by
  unfold dgt
  split
  · omega
  · split <;> omega
theorem puF_nonneg {B : Int} (hB : 0 ≤ B) : ∀ (l : List Int) (u v : Int), 0 ≤ u → puF B l u = some v → 0 ≤ v
  | [], u, v, hu, h => by simp [puF] at h; omega
  | c :: l, u, v, hu, h => by
    rw [puF] at h
    split at h
    · exact puF_nonneg hB l _ v (Int.add_nonneg (Int.mul_nonneg hu hB) (dgt_nonneg c)) h
    · cases h
theorem puS_nonneg {B : Int} (hB : 0 ≤ B) {t : ByteArray} {v : Int} (h : puS B t = some v) : 0 ≤ v := by
  unfold puS at h
  split at h
  · cases h
  · exact puF_nonneg hB _ _ _ (Int.le_refl _) h
theorem numW_nonneg {t : ByteArray} {v : Int} (h : numW t = some v) : 0 ≤ v := by
  unfold numW at h
  split at h
  · exact puS_nonneg (by omega) h
  · split at h
    · exact puS_nonneg (by omega) h
    · exact puS_nonneg (by omega) h
theorem atMost_some {m v : Int} {r : Option Int} (h : atMost m r = some v) : r = some v ∧ v ≤ m := by
  cases r with
  | none => cases h
  | some n =>
    simp only [atMost] at h
    split at h
    · cases h; exact ⟨rfl, by assumption⟩
    · cases h

set_option maxHeartbeats 4000000 in
theorem value_any (s : ByteArray) (w : World) (hs : s.size ≤ 100000) (hg : Glob w) :
    Calls Tryz.prog 10 #[.string s] w fun e w' => ValEnd (valS s) e ∧ Below w.heap.size w w' := by
  have HG := hide hg
  have HT := hide (trim_any s w hs)
  have htl : (trimT s).size ≤ 100000 := Nat.le_trans (trimT_size s) hs
  obtain ⟨t, hteq⟩ : ∃ t, t = trimT s := ⟨_, rfl⟩
  have HV : Hid (valS s = if t.size = 0 then some 0 else if Lib.hasPrefix t.data.toList [45] then (atMost 9223372036854775808 (numW (cutP 45 t))).map (fun n => -n) else atMost 9223372036854775807 (numW (cutP 43 t))) := hide (by rw [hteq]; rfl)
  rw [← hteq] at HT htl
  clear hg hteq
  by_cases h0 : t.size = 0
  · have hem := empty_of h0
    have HV2 : Hid (valS s = some 0) := hide (by rw [unhide HV, if_pos h0])
    go_enter Tryz.func10, Tryz.ntmps10
    go_wp2_with fail
    refine (unhide HT).mono ?_
    rintro e w1 ⟨rfl, b1⟩
    go_wp2
    go_ret2
    exact ⟨by rw [unhide HV2]; rfl, b1⟩
  · have hem := nonempty_of (show 0 < t.size by omega)
    rcases Bool.eq_false_or_eq_true (Lib.hasPrefix t.data.toList [45]) with hm | hm
    · have hcl : (cutP 45 t).size ≤ 100000 := Nat.le_trans (cutP_size 45 t) htl
      rcases hr : atMost 9223372036854775808 (numW (cutP 45 t)) with _ | n
      · have HV2 : Hid (valS s = none) := hide (by rw [unhide HV, if_neg h0, hm, if_pos rfl, hr]; rfl)
        have HN : Hid (∀ w', Glob w' → Calls Tryz.prog 20 #[.string (cutP 45 t), .int .u64 9223372036854775808] w' fun e w'' => e = .returned (.tuple #[.int .u64 0, .int .i64 10]) ∧ Below w'.heap.size w' w'') := hide (fun w' hg' => by
          have h := number_any (cutP 45 t) 9223372036854775808 w' hcl hg'
          rw [hr] at h
          exact h)
        clear hr
        go_enter Tryz.func10, Tryz.ntmps10
        go_wp2_with fail
        refine (unhide HT).mono ?_
        rintro e w1 ⟨rfl, b1⟩
        have HG1 := hide ((unhide HG).below b1)
        have B1 := hide b1
        clear b1
        go_wp2_with fail
        refine (Tryz.strings_CutPrefix t ⟨#[45]⟩ _).mono ?_
        rintro ee x1 ⟨rfl, hx1⟩
        have hx2 := hx1.symm
        subst hx2
        clear hx1
        rw [show Lib.hasPrefix t.data.toList (⟨#[45]⟩ : ByteArray).data.toList = true from hm, show (⟨(Lib.trimPrefix t.data.toList (⟨#[45]⟩ : ByteArray).data.toList).toArray⟩ : ByteArray) = cutP 45 t from rfl]
        go_wp2_with fail
        refine (unhide HN _ (unhide HG1)).mono ?_
        rintro e w2 ⟨rfl, b2⟩
        go_wp2
        go_ret2
        exact ⟨by rw [unhide HV2]; rfl, (unhide B1).trans (b2.mono (unhide B1).size)⟩
      · have HV2 : Hid (valS s = some (-n)) := hide (by rw [unhide HV, if_neg h0, hm, if_pos rfl, hr]; rfl)
        obtain ⟨hnw, hn1⟩ := atMost_some hr
        have hn0 := numW_nonneg hnw
        have hneg : IntKind.i64.wrap (IntKind.u64.wrap (-n)) = -n := by rw [IntKind.wrap_u64, IntKind.wrap_i64]; omega
        have HN : Hid (∀ w', Glob w' → Calls Tryz.prog 20 #[.string (cutP 45 t), .int .u64 9223372036854775808] w' fun e w'' => e = .returned (.tuple #[.int .u64 n, .int .i64 0]) ∧ Below w'.heap.size w' w'') := hide (fun w' hg' => by
          have h := number_any (cutP 45 t) 9223372036854775808 w' hcl hg'
          rw [hr] at h
          exact h)
        clear hr hnw
        go_enter Tryz.func10, Tryz.ntmps10
        go_wp2_with fail
        refine (unhide HT).mono ?_
        rintro e w1 ⟨rfl, b1⟩
        have HG1 := hide ((unhide HG).below b1)
        have B1 := hide b1
        clear b1
        go_wp2_with fail
        refine (Tryz.strings_CutPrefix t ⟨#[45]⟩ _).mono ?_
        rintro ee x1 ⟨rfl, hx1⟩
        have hx2 := hx1.symm
        subst hx2
        clear hx1
        rw [show Lib.hasPrefix t.data.toList (⟨#[45]⟩ : ByteArray).data.toList = true from hm, show (⟨(Lib.trimPrefix t.data.toList (⟨#[45]⟩ : ByteArray).data.toList).toArray⟩ : ByteArray) = cutP 45 t from rfl]
        go_wp2_with fail
        refine (unhide HN _ (unhide HG1)).mono ?_
        rintro e w2 ⟨rfl, b2⟩
        go_wp2
        go_ret2
        exact ⟨by rw [unhide HV2]; rfl, (unhide B1).trans (b2.mono (unhide B1).size)⟩
    · have hcl : (cutP 43 t).size ≤ 100000 := Nat.le_trans (cutP_size 43 t) htl
      rcases hr : atMost 9223372036854775807 (numW (cutP 43 t)) with _ | n
      · have HV2 : Hid (valS s = none) := hide (by rw [unhide HV, if_neg h0, hm, if_neg (by simp), hr])
        have HN : Hid (∀ w', Glob w' → Calls Tryz.prog 20 #[.string (cutP 43 t), .int .u64 9223372036854775807] w' fun e w'' => e = .returned (.tuple #[.int .u64 0, .int .i64 10]) ∧ Below w'.heap.size w' w'') := hide (fun w' hg' => by
          have h := number_any (cutP 43 t) 9223372036854775807 w' hcl hg'
          rw [hr] at h
          exact h)
        clear hr
        go_enter Tryz.func10, Tryz.ntmps10
        go_wp2_with fail
        refine (unhide HT).mono ?_
        rintro e w1 ⟨rfl, b1⟩
        have HG1 := hide ((unhide HG).below b1)
        have B1 := hide b1
        clear b1
        go_wp2_with fail
        refine (Tryz.strings_CutPrefix t ⟨#[45]⟩ _).mono ?_
        rintro ee x1 ⟨rfl, hx1⟩
        have hx2 := hx1.symm
        subst hx2
        clear hx1
        rw [show Lib.hasPrefix t.data.toList (⟨#[45]⟩ : ByteArray).data.toList = false from hm]
        go_wp2_with fail
        refine (Tryz.strings_TrimPrefix t ⟨#[43]⟩ _).mono ?_
        rintro ee x1 ⟨rfl, hx1⟩
        have hx2 := hx1.symm
        subst hx2
        clear hx1
        go_wp2_with fail
        refine (unhide HN _ (unhide HG1)).mono ?_
        rintro e w2 ⟨rfl, b2⟩
        go_wp2
        go_ret2
        exact ⟨by rw [unhide HV2]; rfl, (unhide B1).trans (b2.mono (unhide B1).size)⟩
      · have HV2 : Hid (valS s = some n) := hide (by rw [unhide HV, if_neg h0, hm, if_neg (by simp), hr])
        obtain ⟨hnw, hn1⟩ := atMost_some hr
        have hn0 := numW_nonneg hnw
        have hneg : IntKind.i64.wrap n = n := by rw [IntKind.wrap_i64]; omega
        have HN : Hid (∀ w', Glob w' → Calls Tryz.prog 20 #[.string (cutP 43 t), .int .u64 9223372036854775807] w' fun e w'' => e = .returned (.tuple #[.int .u64 n, .int .i64 0]) ∧ Below w'.heap.size w' w'') := hide (fun w' hg' => by
          have h := number_any (cutP 43 t) 9223372036854775807 w' hcl hg'
          rw [hr] at h
          exact h)
        clear hr hnw
        go_enter Tryz.func10, Tryz.ntmps10
        go_wp2_with fail
        refine (unhide HT).mono ?_
        rintro e w1 ⟨rfl, b1⟩
        have HG1 := hide ((unhide HG).below b1)
        have B1 := hide b1
        clear b1
        go_wp2_with fail
        refine (Tryz.strings_CutPrefix t ⟨#[45]⟩ _).mono ?_
        rintro ee x1 ⟨rfl, hx1⟩
        have hx2 := hx1.symm
        subst hx2
        clear hx1
        rw [show Lib.hasPrefix t.data.toList (⟨#[45]⟩ : ByteArray).data.toList = false from hm]
        go_wp2_with fail
        refine (Tryz.strings_TrimPrefix t ⟨#[43]⟩ _).mono ?_
        rintro ee x1 ⟨rfl, hx1⟩
        have hx2 := hx1.symm
        subst hx2
        clear hx1
        go_wp2_with fail
        refine (unhide HN _ (unhide HG1)).mono ?_
        rintro e w2 ⟨rfl, b2⟩
        go_wp2
        go_ret2
        exact ⟨by rw [unhide HV2]; rfl, (unhide B1).trans (b2.mono (unhide B1).size)⟩

end Go.Proofs.YtlbpeknncakfeaaGreatDoor

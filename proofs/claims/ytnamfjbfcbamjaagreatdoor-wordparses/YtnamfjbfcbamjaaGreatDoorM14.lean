/-
  Package word's brace and long.
  The document's reader: brace.
  The document's reader: brace, with a sign.
-/
import Derived.Test.YtnamfjbfcbamjaaGreatDoorM13
import Derived.Deep.DeepCutAuto
import Derived.Deep.CutRange

/- Package word's brace and long. -/
namespace Go.Proofs.YtnamfjbfcbamjaaGreatDoor
open Go.RowKit

def BrEnd (r : Bd) (w : World) (e : Ending) (w' : World) : Prop :=
  match r with
  | .ok p => ∃ v, e = .returned (.tuple #[partV p v, .int .i64 0]) ∧ Below w.heap.size w w' ∧ WAt w' (fun k => w.heap.size ≤ k ∧ k < w'.heap.size) v p.sub
  | .err x => e = .returned (.tuple #[.agg #[.int .i64 0, .string ⟨#[]⟩, .bool false, .int .i64 0, .bool false, .slice none 0 0], .int .i64 x]) ∧ x ≠ 0 ∧ Below w.heap.size w w'
theorem within_lt (k : Nat) (op : Int) : withinW k op < 6 := by
  unfold withinW
  split
  · decide
  · split <;> decide
theorem has35 (l : List UInt8) : Lib.hasPrefix l [35] = (l.head? == some 35) := by
  cases l with
  | nil => rfl
  | cons c r => rw [hasP_one]; simp [Bool.beq_eq_decide_eq]
theorem trim35 {l : List UInt8} (h : (l.head? == some 35) = true) : Lib.trimPrefix l [35] = l.drop 1 := by
  unfold Lib.trimPrefix
  rw [has35, h]
  rfl
theorem below_T6 {w w1 : World} (hb : Below w.heap.size w w1) (x0 x1 x2 x3 x4 x5 : Value) : Below w.heap.size w (T6 w1 w.heap.size 0 x0 x1 x2 x3 x4 x5) :=
  hb.trans ((T6_grown w1 w.heap.size 0 _ _ _ _ _ _).below hb.size (fun k e => by omega))

set_option maxRecDepth 20000 in
set_option maxHeartbeats 4000000 in
theorem brace_len (k : Nat) (l : List UInt8) (w : World) (hl : l.length ≤ 4096) (h1 : (l.head? == some 35) = true) (h2 : l.drop 1 ≠ []) (h3 : parN (l.drop 1) = (l.drop 1).length) :
    Calls Tryz.prog 93 #[.int .i64 (k : Int), .string (BA l)] w fun e w' => BrEnd (.ok (.mk 2 (l.drop 1) false 1 false [])) w e w' := by
  have HC : Hid (∀ W, Calls Tryz.prog 108 #[.string (BA l), .string ⟨#[35]⟩] W fun e w' => e = .returned (.tuple #[.string (BA (l.drop 1)), .bool true]) ∧ w' = W) := hide (fun W => by
    have := Tryz.strings_CutPrefix (BA l) ⟨#[35]⟩ W
    rw [show Lib.hasPrefix (BA l).data.toList (⟨#[35]⟩ : ByteArray).data.toList = true from (has35 l).trans h1, show Lib.trimPrefix (BA l).data.toList (⟨#[35]⟩ : ByteArray).data.toList = l.drop 1 from trim35 h1] at this
    exact this)
  obtain ⟨u, hu⟩ : ∃ u, u = l.drop 1 := ⟨_, rfl⟩
  have hul : u.length ≤ 4096 := by rw [hu]; simp; omega
  rw [← hu] at HC h2 h3 ⊢
  have HP := hide (fun W => parameter_any (BA u) W (by simp; omega))
  simp only [BA_list, h3] at HP
  have t2 : (BA u).toList.isEmpty = false := by
    rw [BA_toList]
    cases u with
    | nil => exact absurd rfl h2
    | cons _ _ => rfl
  clear hu h1 h2 h3
  go_enter Tryz.func93, Tryz.ntmps93
  go_wp2_with fail
  refine (unhide HC _).mono ?_
  rintro e w1 ⟨rfl, hw1⟩
  have hw2 := hw1.symm
  subst hw2
  clear hw1
  go_wp2_with fail
  refine (unhide HP _).mono ?_
  rintro e w1 ⟨rfl, hw1⟩
  have hw2 := hw1.symm
  subst hw2
  clear hw1
  go_wp2
  refine bodyPost_ret (v := .tuple #[partV (.mk 2 u false 1 false []) (.slice none 0 0), .int .i64 0]) (results_part2 rfl _ _ w.heap.size _ _ _ _ _ _ _ rfl rfl (Blk.new w _ _)) rfl ?_
  exact ⟨_, rfl, (Below.refl _ _).alloc (Nat.le_refl _) _, wat_nil _ _ _ _⟩

set_option maxRecDepth 20000 in
set_option maxHeartbeats 4000000 in
theorem brace_no (k : Nat) (l : List UInt8) (w : World) (hl : l.length ≤ 4096) (hnot : ¬ (l.head? = some 35 ∧ l.drop 1 ≠ [] ∧ parN (l.drop 1) = (l.drop 1).length)) (hp : parN l = 0) :
    Calls Tryz.prog 93 #[.int .i64 (k : Int), .string (BA l)] w fun e w' => BrEnd (.err 10) w e w' := by
  have HPL := hide (fun W => parameter_any (BA l) W (by simp; omega))
  simp only [BA_list] at HPL
  rw [hp] at HPL
  clear hp
  have hways : ((l.head? == some 35) = false) ∨ ((l.head? == some 35) = true ∧ l.drop 1 = []) ∨ ((l.head? == some 35) = true ∧ l.drop 1 ≠ [] ∧ parN (l.drop 1) ≠ (l.drop 1).length) := by
    by_cases h1 : l.head? = some 35
    · by_cases h2 : l.drop 1 = []
      · exact .inr (.inl ⟨by simpa using h1, h2⟩)
      · exact .inr (.inr ⟨by simpa using h1, h2, fun h3 => hnot ⟨h1, h2, h3⟩⟩)
    · exact .inl (by simpa using h1)
  have HCT : Hid (∀ W, Calls Tryz.prog 108 #[.string (BA l), .string ⟨#[35]⟩] W fun e w' => e = .returned (.tuple #[.string (BA (if (l.head? == some 35) then l.drop 1 else l)), .bool (l.head? == some 35)]) ∧ w' = W) := hide (fun W => by
    have := Tryz.strings_CutPrefix (BA l) ⟨#[35]⟩ W
    rw [show Lib.hasPrefix (BA l).data.toList (⟨#[35]⟩ : ByteArray).data.toList = (l.head? == some 35) from has35 l, show Lib.trimPrefix (BA l).data.toList (⟨#[35]⟩ : ByteArray).data.toList = (if (l.head? == some 35) then l.drop 1 else l) from by unfold Lib.trimPrefix; rw [has35]; rfl] at this
    exact this)
  clear hnot
  rcases hways with h1 | ⟨h1, h2⟩ | ⟨h1, h2, h3⟩
  · rw [h1] at HCT
    simp only [Bool.false_eq_true, if_false] at HCT
    clear h1
    go_enter Tryz.func93, Tryz.ntmps93
    go_wp2_with fail
    refine (unhide HCT _).mono ?_
    rintro e w1 ⟨rfl, hw1⟩
    have hw2 := hw1.symm
    subst hw2
    clear hw1
    go_wp2_with fail
    refine (unhide HPL _).mono ?_
    rintro e w1 ⟨rfl, hw1⟩
    have hw2 := hw1.symm
    subst hw2
    clear hw1
    go_wp2
    refine bodyPost_ret (v := .tuple #[.agg #[.int .i64 0, .string ⟨#[]⟩, .bool false, .int .i64 0, .bool false, .slice none 0 0], .int .i64 10]) (results_part2 rfl _ _ w.heap.size _ _ _ _ _ _ _ rfl rfl (Blk.new w _ _)) rfl ?_
    exact ⟨rfl, by decide, (Below.refl _ _).alloc (Nat.le_refl _) _⟩
  · rw [h1, h2] at HCT
    simp only [if_true] at HCT
    have t2 : (BA []).toList.isEmpty = true := by rw [BA_toList]; rfl
    clear h1 h2
    go_enter Tryz.func93, Tryz.ntmps93
    go_wp2_with fail
    refine (unhide HCT _).mono ?_
    rintro e w1 ⟨rfl, hw1⟩
    have hw2 := hw1.symm
    subst hw2
    clear hw1
    go_wp2_with fail
    refine (unhide HPL _).mono ?_
    rintro e w1 ⟨rfl, hw1⟩
    have hw2 := hw1.symm
    subst hw2
    clear hw1
    go_wp2
    refine bodyPost_ret (v := .tuple #[.agg #[.int .i64 0, .string ⟨#[]⟩, .bool false, .int .i64 0, .bool false, .slice none 0 0], .int .i64 10]) (results_part2 rfl _ _ w.heap.size _ _ _ _ _ _ _ rfl rfl (Blk.new w _ _)) rfl ?_
    exact ⟨rfl, by decide, (Below.refl _ _).alloc (Nat.le_refl _) _⟩
  · rw [h1] at HCT
    simp only [if_true] at HCT
    obtain ⟨u, hu⟩ : ∃ u, u = l.drop 1 := ⟨_, rfl⟩
    have hul : u.length ≤ 4096 := by rw [hu]; simp; omega
    rw [← hu] at HCT h2 h3
    have HPU := hide (fun W => parameter_any (BA u) W (by simp; omega))
    simp only [BA_list] at HPU
    have t2 : (BA u).toList.isEmpty = false := by
      rw [BA_toList]
      cases u with
      | nil => exact absurd rfl h2
      | cons _ _ => rfl
    obtain ⟨pu, hpu⟩ : ∃ x, x = parN u := ⟨_, rfl⟩
    rw [← hpu] at HPU h3
    have h3' : ((pu : Int) == (u.length : Int)) = false := by rw [beq_eq_false_iff_ne]; omega
    clear hu h1 h2 h3 hpu
    go_enter Tryz.func93, Tryz.ntmps93
    go_wp2_with fail
    refine (unhide HCT _).mono ?_
    rintro e w1 ⟨rfl, hw1⟩
    have hw2 := hw1.symm
    subst hw2
    clear hw1
    go_wp2_with fail
    refine (unhide HPU _).mono ?_
    rintro e w1 ⟨rfl, hw1⟩
    have hw2 := hw1.symm
    subst hw2
    clear hw1
    go_wp2_with fail
    refine (unhide HPL _).mono ?_
    rintro e w1 ⟨rfl, hw1⟩
    have hw2 := hw1.symm
    subst hw2
    clear hw1
    go_wp2
    refine bodyPost_ret (v := .tuple #[.agg #[.int .i64 0, .string ⟨#[]⟩, .bool false, .int .i64 0, .bool false, .slice none 0 0], .int .i64 10]) (results_part2 rfl _ _ w.heap.size _ _ _ _ _ _ _ rfl rfl (Blk.new w _ _)) rfl ?_
    exact ⟨rfl, by decide, (Below.refl _ _).alloc (Nat.le_refl _) _⟩
set_option maxRecDepth 20000 in
set_option maxHeartbeats 4000000 in
theorem brace_whole (k : Nat) (l : List UInt8) (w : World) (hl : l.length ≤ 4096) (hnot : ¬ (l.head? = some 35 ∧ l.drop 1 ≠ [] ∧ parN (l.drop 1) = (l.drop 1).length)) (hp : parN l ≠ 0) (hw : parN l = l.length) :
    Calls Tryz.prog 93 #[.int .i64 (k : Int), .string (BA l)] w fun e w' => BrEnd (.ok (.mk 2 l false 0 false [])) w e w' := by
  have HPL := hide (fun W => parameter_any (BA l) W (by simp; omega))
  simp only [BA_list] at HPL
  rw [hw] at HPL hp
  have hp0 : ((l.length : Int) == 0) = false := by rw [beq_eq_false_iff_ne]; omega
  have HX : Hid ((BA l).extract 0 l.length = BA l) := hide (by have := extract_take (BA l) 0 l.length; simpa using this)
  clear hp hw
  have hways : ((l.head? == some 35) = false) ∨ ((l.head? == some 35) = true ∧ l.drop 1 = []) ∨ ((l.head? == some 35) = true ∧ l.drop 1 ≠ [] ∧ parN (l.drop 1) ≠ (l.drop 1).length) := by
    by_cases h1 : l.head? = some 35
    · by_cases h2 : l.drop 1 = []
      · exact .inr (.inl ⟨by simpa using h1, h2⟩)
      · exact .inr (.inr ⟨by simpa using h1, h2, fun h3 => hnot ⟨h1, h2, h3⟩⟩)
    · exact .inl (by simpa using h1)
  have HCT : Hid (∀ W, Calls Tryz.prog 108 #[.string (BA l), .string ⟨#[35]⟩] W fun e w' => e = .returned (.tuple #[.string (BA (if (l.head? == some 35) then l.drop 1 else l)), .bool (l.head? == some 35)]) ∧ w' = W) := hide (fun W => by
    have := Tryz.strings_CutPrefix (BA l) ⟨#[35]⟩ W
    rw [show Lib.hasPrefix (BA l).data.toList (⟨#[35]⟩ : ByteArray).data.toList = (l.head? == some 35) from has35 l, show Lib.trimPrefix (BA l).data.toList (⟨#[35]⟩ : ByteArray).data.toList = (if (l.head? == some 35) then l.drop 1 else l) from by unfold Lib.trimPrefix; rw [has35]; rfl] at this
    exact this)
  clear hnot
  rcases hways with h1 | ⟨h1, h2⟩ | ⟨h1, h2, h3⟩
  · rw [h1] at HCT
    simp only [Bool.false_eq_true, if_false] at HCT
    clear h1
    go_enter Tryz.func93, Tryz.ntmps93
    go_wp2_with fail
    refine (unhide HCT _).mono ?_
    rintro e w1 ⟨rfl, hw1⟩
    have hw2 := hw1.symm
    subst hw2
    clear hw1
    go_wp2_with fail
    refine (unhide HPL _).mono ?_
    rintro e w1 ⟨rfl, hw1⟩
    have hw2 := hw1.symm
    subst hw2
    clear hw1
    go_wp2
    refine bodyPost_ret (v := .tuple #[.agg #[.int .i64 2, .string ((BA l).extract 0 l.length), .bool false, .int .i64 0, .bool false, .slice none 0 0], .int .i64 0]) (results_part2 rfl _ _ w.heap.size _ _ _ _ _ _ _ rfl rfl ((Blk.new w _ _).alloc _)) rfl ?_
    rw [unhide HX]
    exact ⟨_, rfl, ((Below.refl _ _).alloc (Nat.le_refl _) _).alloc (by simp) _, wat_nil _ _ _ _⟩
  · rw [h1, h2] at HCT
    simp only [if_true] at HCT
    have t2 : (BA []).toList.isEmpty = true := by rw [BA_toList]; rfl
    clear h1 h2
    go_enter Tryz.func93, Tryz.ntmps93
    go_wp2_with fail
    refine (unhide HCT _).mono ?_
    rintro e w1 ⟨rfl, hw1⟩
    have hw2 := hw1.symm
    subst hw2
    clear hw1
    go_wp2_with fail
    refine (unhide HPL _).mono ?_
    rintro e w1 ⟨rfl, hw1⟩
    have hw2 := hw1.symm
    subst hw2
    clear hw1
    go_wp2
    refine bodyPost_ret (v := .tuple #[.agg #[.int .i64 2, .string ((BA l).extract 0 l.length), .bool false, .int .i64 0, .bool false, .slice none 0 0], .int .i64 0]) (results_part2 rfl _ _ w.heap.size _ _ _ _ _ _ _ rfl rfl ((Blk.new w _ _).alloc _)) rfl ?_
    rw [unhide HX]
    exact ⟨_, rfl, ((Below.refl _ _).alloc (Nat.le_refl _) _).alloc (by simp) _, wat_nil _ _ _ _⟩
  · rw [h1] at HCT
    simp only [if_true] at HCT
    obtain ⟨u, hu⟩ : ∃ u, u = l.drop 1 := ⟨_, rfl⟩
    have hul : u.length ≤ 4096 := by rw [hu]; simp; omega
    rw [← hu] at HCT h2 h3
    have HPU := hide (fun W => parameter_any (BA u) W (by simp; omega))
    simp only [BA_list] at HPU
    have t2 : (BA u).toList.isEmpty = false := by
      rw [BA_toList]
      cases u with
      | nil => exact absurd rfl h2
      | cons _ _ => rfl
    obtain ⟨pu, hpu⟩ : ∃ x, x = parN u := ⟨_, rfl⟩
    rw [← hpu] at HPU h3
    have h3' : ((pu : Int) == (u.length : Int)) = false := by rw [beq_eq_false_iff_ne]; omega
    clear hu h1 h2 h3 hpu
    go_enter Tryz.func93, Tryz.ntmps93
    go_wp2_with fail
    refine (unhide HCT _).mono ?_
    rintro e w1 ⟨rfl, hw1⟩
    have hw2 := hw1.symm
    subst hw2
    clear hw1
    go_wp2_with fail
    refine (unhide HPU _).mono ?_
    rintro e w1 ⟨rfl, hw1⟩
    have hw2 := hw1.symm
    subst hw2
    clear hw1
    go_wp2_with fail
    refine (unhide HPL _).mono ?_
    rintro e w1 ⟨rfl, hw1⟩
    have hw2 := hw1.symm
    subst hw2
    clear hw1
    go_wp2
    refine bodyPost_ret (v := .tuple #[.agg #[.int .i64 2, .string ((BA l).extract 0 l.length), .bool false, .int .i64 0, .bool false, .slice none 0 0], .int .i64 0]) (results_part2 rfl _ _ w.heap.size _ _ _ _ _ _ _ rfl rfl ((Blk.new w _ _).alloc _)) rfl ?_
    rw [unhide HX]
    exact ⟨_, rfl, ((Below.refl _ _).alloc (Nat.le_refl _) _).alloc (by simp) _, wat_nil _ _ _ _⟩
set_option maxRecDepth 20000 in
set_option maxHeartbeats 4000000 in
theorem brace_bad (k : Nat) (l : List UInt8) (w : World) (hl : l.length ≤ 4096) (hnot : ¬ (l.head? = some 35 ∧ l.drop 1 ≠ [] ∧ parN (l.drop 1) = (l.drop 1).length)) (he : WEnv w) (hp : parN l ≠ 0) (hw : parN l ≠ l.length) (hs : sgnL (colonL (l.drop (parN l))) (behindL (l.drop (parN l))) = none) :
    Calls Tryz.prog 93 #[.int .i64 (k : Int), .string (BA l)] w fun e w' => BrEnd (.err 10) w e w' := by
  have HPL := hide (fun W => parameter_any (BA l) W (by simp; omega))
  simp only [BA_list] at HPL
  have hle := par_le l
  obtain ⟨n, hn⟩ : ∃ n, n = parN l := ⟨_, rfl⟩
  rw [← hn] at HPL hp hw hs hle
  have hp0 : ((n : Int) == 0) = false := by rw [beq_eq_false_iff_ne]; omega
  have hw0 : ((n : Int) == (l.length : Int)) = false := by rw [beq_eq_false_iff_ne]; omega
  have hn1 : (n : Int) ≤ (l.length : Int) := by omega
  have h2w := he.two
  have HX : Hid ((BA l).extract n l.length = BA (l.drop n)) := hide (by have := extract_end (BA l) n; simpa using this)
  have HOP : Hid (∀ o1 t0, Calls Tryz.prog 110 #[.pointer (some ⟨w.heap.size + 1, 0, none⟩), .string (BA (l.drop n))] ((w.alloc o1).alloc (.cells #[.int .i64 2, t0, .bool false, .int .i64 0, .bool false, .slice none 0 0] 37)) fun e w' => e = .returned (.tuple #[.string ⟨#[]⟩, .bool false]) ∧ GrownS ((w.alloc o1).alloc (.cells #[.int .i64 2, t0, .bool false, .int .i64 0, .bool false, .slice none 0 0] 37)) w' (fun k => k = w.heap.size + 1)) := hide (fun o1 t0 => by
    have hb : PBk ((w.alloc o1).alloc (.cells #[.int .i64 2, t0, .bool false, .int .i64 0, .bool false, .slice none 0 0] 37)) (w.heap.size + 1) (.int .i64 2) t0 (.bool false) (.slice none 0 0) 0 false := by
      have := Blk.new (w.alloc o1) 37 #[.int .i64 2, t0, .bool false, .int .i64 0, .bool false, .slice none 0 0]
      rwa [show (w.alloc o1).heap.size = w.heap.size + 1 by simp] at this
    refine (operation_any (l.drop n) (w.heap.size + 1) _ _ _ _ 0 false _ (he.below ((((Below.refl _ w).alloc (Nat.le_refl _) _).alloc (by simp) _).mono (by omega))) hb (by omega)).mono ?_
    intro e w' h
    unfold OpEnd at h
    rw [hs] at h
    exact h)
  clear hp hw hs hn he
  have hways : ((l.head? == some 35) = false) ∨ ((l.head? == some 35) = true ∧ l.drop 1 = []) ∨ ((l.head? == some 35) = true ∧ l.drop 1 ≠ [] ∧ parN (l.drop 1) ≠ (l.drop 1).length) := by
    by_cases h1 : l.head? = some 35
    · by_cases h2 : l.drop 1 = []
      · exact .inr (.inl ⟨by simpa using h1, h2⟩)
      · exact .inr (.inr ⟨by simpa using h1, h2, fun h3 => hnot ⟨h1, h2, h3⟩⟩)
    · exact .inl (by simpa using h1)
  have HCT : Hid (∀ W, Calls Tryz.prog 108 #[.string (BA l), .string ⟨#[35]⟩] W fun e w' => e = .returned (.tuple #[.string (BA (if (l.head? == some 35) then l.drop 1 else l)), .bool (l.head? == some 35)]) ∧ w' = W) := hide (fun W => by
    have := Tryz.strings_CutPrefix (BA l) ⟨#[35]⟩ W
    rw [show Lib.hasPrefix (BA l).data.toList (⟨#[35]⟩ : ByteArray).data.toList = (l.head? == some 35) from has35 l, show Lib.trimPrefix (BA l).data.toList (⟨#[35]⟩ : ByteArray).data.toList = (if (l.head? == some 35) then l.drop 1 else l) from by unfold Lib.trimPrefix; rw [has35]; rfl] at this
    exact this)
  clear hnot
  rcases hways with h1 | ⟨h1, h2⟩ | ⟨h1, h2, h3⟩
  · rw [h1] at HCT
    simp only [Bool.false_eq_true, if_false] at HCT
    clear h1
    go_enter Tryz.func93, Tryz.ntmps93
    go_wp2_with fail
    refine (unhide HCT _).mono ?_
    rintro e w1 ⟨rfl, hw1⟩
    have hw2 := hw1.symm
    subst hw2
    clear hw1
    go_wp2_with fail
    refine (unhide HPL _).mono ?_
    rintro e w1 ⟨rfl, hw1⟩
    have hw2 := hw1.symm
    subst hw2
    clear hw1
    go_wp2_with fail
    rw [unhide HX]
    refine (unhide HOP _ _).mono ?_
    rintro e w3 ⟨rfl, g3⟩
    have HBZ := hide (Blk.grownS ((Blk.new w 37 #[.int .i64 0, .string ⟨#[]⟩, .bool false, .int .i64 0, .bool false, .slice none 0 0]).alloc _) g3 (by simp))
    have HBB := hide ((((Below.refl _ w).alloc (Nat.le_refl _) _).alloc (by simp) _).trans (g3.below (n := w.heap.size) (by simp; omega) (fun k e => by omega)))
    have z0 : w3.cell? ⟨w.heap.size, 0, none⟩ = some (.int .i64 0) := (unhide HBZ).cell 0 rfl
    have z1 : w3.cell? ⟨w.heap.size, 1, none⟩ = some (.string ⟨#[]⟩) := (unhide HBZ).cell 1 rfl
    have z2 : w3.cell? ⟨w.heap.size, 2, none⟩ = some (.bool false) := (unhide HBZ).cell 2 rfl
    have z3 : w3.cell? ⟨w.heap.size, 3, none⟩ = some (.int .i64 0) := (unhide HBZ).cell 3 rfl
    have z4 : w3.cell? ⟨w.heap.size, 4, none⟩ = some (.bool false) := (unhide HBZ).cell 4 rfl
    have z5 : w3.cell? ⟨w.heap.size, 5, none⟩ = some (.slice none 0 0) := (unhide HBZ).cell 5 rfl
    have zf : ∀ j, w3.frozen? ⟨w.heap.size, j, none⟩ = false := fun j => (unhide HBZ).frozen j
    clear g3 HOP
    go_wp2
    refine bodyPost_ret (v := .tuple #[.agg #[.int .i64 0, .string ⟨#[]⟩, .bool false, .int .i64 0, .bool false, .slice none 0 0], .int .i64 10]) (results_part2 rfl _ _ w.heap.size _ _ _ _ _ _ _ rfl rfl (blk_T6 (unhide HBZ) (.int .i64 0) (.string ⟨#[]⟩) (.bool false) (.int .i64 0) (.bool false) (.slice none 0 0))) rfl ?_
    exact ⟨rfl, by decide, below_T6 (unhide HBB) _ _ _ _ _ _⟩
  · rw [h1, h2] at HCT
    simp only [if_true] at HCT
    have t2 : (BA []).toList.isEmpty = true := by rw [BA_toList]; rfl
    clear h1 h2
    go_enter Tryz.func93, Tryz.ntmps93
    go_wp2_with fail
    refine (unhide HCT _).mono ?_
    rintro e w1 ⟨rfl, hw1⟩
    have hw2 := hw1.symm
    subst hw2
    clear hw1
    go_wp2_with fail
    refine (unhide HPL _).mono ?_
    rintro e w1 ⟨rfl, hw1⟩
    have hw2 := hw1.symm
    subst hw2
    clear hw1
    go_wp2_with fail
    rw [unhide HX]
    refine (unhide HOP _ _).mono ?_
    rintro e w3 ⟨rfl, g3⟩
    have HBZ := hide (Blk.grownS ((Blk.new w 37 #[.int .i64 0, .string ⟨#[]⟩, .bool false, .int .i64 0, .bool false, .slice none 0 0]).alloc _) g3 (by simp))
    have HBB := hide ((((Below.refl _ w).alloc (Nat.le_refl _) _).alloc (by simp) _).trans (g3.below (n := w.heap.size) (by simp; omega) (fun k e => by omega)))
    have z0 : w3.cell? ⟨w.heap.size, 0, none⟩ = some (.int .i64 0) := (unhide HBZ).cell 0 rfl
    have z1 : w3.cell? ⟨w.heap.size, 1, none⟩ = some (.string ⟨#[]⟩) := (unhide HBZ).cell 1 rfl
    have z2 : w3.cell? ⟨w.heap.size, 2, none⟩ = some (.bool false) := (unhide HBZ).cell 2 rfl
    have z3 : w3.cell? ⟨w.heap.size, 3, none⟩ = some (.int .i64 0) := (unhide HBZ).cell 3 rfl
    have z4 : w3.cell? ⟨w.heap.size, 4, none⟩ = some (.bool false) := (unhide HBZ).cell 4 rfl
    have z5 : w3.cell? ⟨w.heap.size, 5, none⟩ = some (.slice none 0 0) := (unhide HBZ).cell 5 rfl
    have zf : ∀ j, w3.frozen? ⟨w.heap.size, j, none⟩ = false := fun j => (unhide HBZ).frozen j
    clear g3 HOP
    go_wp2
    refine bodyPost_ret (v := .tuple #[.agg #[.int .i64 0, .string ⟨#[]⟩, .bool false, .int .i64 0, .bool false, .slice none 0 0], .int .i64 10]) (results_part2 rfl _ _ w.heap.size _ _ _ _ _ _ _ rfl rfl (blk_T6 (unhide HBZ) (.int .i64 0) (.string ⟨#[]⟩) (.bool false) (.int .i64 0) (.bool false) (.slice none 0 0))) rfl ?_
    exact ⟨rfl, by decide, below_T6 (unhide HBB) _ _ _ _ _ _⟩
  · rw [h1] at HCT
    simp only [if_true] at HCT
    obtain ⟨u, hu⟩ : ∃ u, u = l.drop 1 := ⟨_, rfl⟩
    have hul : u.length ≤ 4096 := by rw [hu]; simp; omega
    rw [← hu] at HCT h2 h3
    have HPU := hide (fun W => parameter_any (BA u) W (by simp; omega))
    simp only [BA_list] at HPU
    have t2 : (BA u).toList.isEmpty = false := by
      rw [BA_toList]
      cases u with
      | nil => exact absurd rfl h2
      | cons _ _ => rfl
    obtain ⟨pu, hpu⟩ : ∃ x, x = parN u := ⟨_, rfl⟩
    rw [← hpu] at HPU h3
    have h3' : ((pu : Int) == (u.length : Int)) = false := by rw [beq_eq_false_iff_ne]; omega
    clear hu h1 h2 h3 hpu
    go_enter Tryz.func93, Tryz.ntmps93
    go_wp2_with fail
    refine (unhide HCT _).mono ?_
    rintro e w1 ⟨rfl, hw1⟩
    have hw2 := hw1.symm
    subst hw2
    clear hw1
    go_wp2_with fail
    refine (unhide HPU _).mono ?_
    rintro e w1 ⟨rfl, hw1⟩
    have hw2 := hw1.symm
    subst hw2
    clear hw1
    go_wp2_with fail
    refine (unhide HPL _).mono ?_
    rintro e w1 ⟨rfl, hw1⟩
    have hw2 := hw1.symm
    subst hw2
    clear hw1
    go_wp2_with fail
    rw [unhide HX]
    refine (unhide HOP _ _).mono ?_
    rintro e w3 ⟨rfl, g3⟩
    have HBZ := hide (Blk.grownS ((Blk.new w 37 #[.int .i64 0, .string ⟨#[]⟩, .bool false, .int .i64 0, .bool false, .slice none 0 0]).alloc _) g3 (by simp))
    have HBB := hide ((((Below.refl _ w).alloc (Nat.le_refl _) _).alloc (by simp) _).trans (g3.below (n := w.heap.size) (by simp; omega) (fun k e => by omega)))
    have z0 : w3.cell? ⟨w.heap.size, 0, none⟩ = some (.int .i64 0) := (unhide HBZ).cell 0 rfl
    have z1 : w3.cell? ⟨w.heap.size, 1, none⟩ = some (.string ⟨#[]⟩) := (unhide HBZ).cell 1 rfl
    have z2 : w3.cell? ⟨w.heap.size, 2, none⟩ = some (.bool false) := (unhide HBZ).cell 2 rfl
    have z3 : w3.cell? ⟨w.heap.size, 3, none⟩ = some (.int .i64 0) := (unhide HBZ).cell 3 rfl
    have z4 : w3.cell? ⟨w.heap.size, 4, none⟩ = some (.bool false) := (unhide HBZ).cell 4 rfl
    have z5 : w3.cell? ⟨w.heap.size, 5, none⟩ = some (.slice none 0 0) := (unhide HBZ).cell 5 rfl
    have zf : ∀ j, w3.frozen? ⟨w.heap.size, j, none⟩ = false := fun j => (unhide HBZ).frozen j
    clear g3 HOP
    go_wp2
    refine bodyPost_ret (v := .tuple #[.agg #[.int .i64 0, .string ⟨#[]⟩, .bool false, .int .i64 0, .bool false, .slice none 0 0], .int .i64 10]) (results_part2 rfl _ _ w.heap.size _ _ _ _ _ _ _ rfl rfl (blk_T6 (unhide HBZ) (.int .i64 0) (.string ⟨#[]⟩) (.bool false) (.int .i64 0) (.bool false) (.slice none 0 0))) rfl ?_
    exact ⟨rfl, by decide, below_T6 (unhide HBB) _ _ _ _ _ _⟩
set_option maxRecDepth 20000 in
set_option maxHeartbeats 4000000 in
theorem brace_err {N : Nat} (hW : WordN N) (k : Nat) (l : List UInt8) (w : World) (hl : l.length ≤ 4096) (hnot : ¬ (l.head? = some 35 ∧ l.drop 1 ≠ [] ∧ parN (l.drop 1) = (l.drop 1).length)) (he : WEnv w) (hk : k < 6) (hlN : l.length ≤ N) (hp : parN l ≠ 0) (hw : parN l ≠ l.length) (op : Int) (t : List UInt8) (hs : sgnL (colonL (l.drop (parN l))) (behindL (l.drop (parN l))) = some (op, t)) (x : Int) (hR : (rdC true (withinW k op) t).word = .err x) :
    Calls Tryz.prog 93 #[.int .i64 (k : Int), .string (BA l)] w fun e w' => BrEnd (.err x) w e w' := by
  have HPL := hide (fun W => parameter_any (BA l) W (by simp; omega))
  simp only [BA_list] at HPL
  have hle := par_le l
  have htl : t.length ≤ l.length := by
    have h1 := sgn_len hs
    have h2 := behind_len (l.drop (parN l))
    have h3 : (l.drop (parN l)).length ≤ l.length := by simp
    omega
  obtain ⟨n, hn⟩ : ∃ n, n = parN l := ⟨_, rfl⟩
  rw [← hn] at HPL hp hw hs hle
  have hp0 : ((n : Int) == 0) = false := by rw [beq_eq_false_iff_ne]; omega
  have hw0 : ((n : Int) == (l.length : Int)) = false := by rw [beq_eq_false_iff_ne]; omega
  have hn1 : (n : Int) ≤ (l.length : Int) := by omega
  have h2w := he.two
  have HX : Hid ((BA l).extract n l.length = BA (l.drop n)) := hide (by have := extract_end (BA l) n; simpa using this)
  have HXT : Hid ((BA l).extract 0 n = BA (l.take n)) := hide (by have := extract_take (BA l) 0 n; simpa using this)
  obtain ⟨cl, hcl⟩ : ∃ x, x = colonL (l.drop n) := ⟨_, rfl⟩
  have HOP : Hid (∀ o1 t0, Calls Tryz.prog 110 #[.pointer (some ⟨w.heap.size + 1, 0, none⟩), .string (BA (l.drop n))] ((w.alloc o1).alloc (.cells #[.int .i64 2, t0, .bool false, .int .i64 0, .bool false, .slice none 0 0] 37)) fun e w' => e = .returned (.tuple #[.string (BA t), .bool true]) ∧ GrownS ((w.alloc o1).alloc (.cells #[.int .i64 2, t0, .bool false, .int .i64 0, .bool false, .slice none 0 0] 37)) w' (fun k => k = w.heap.size + 1) ∧ PBk w' (w.heap.size + 1) (.int .i64 2) t0 (.bool false) (.slice none 0 0) op cl) := hide (fun o1 t0 => by
    have hb : PBk ((w.alloc o1).alloc (.cells #[.int .i64 2, t0, .bool false, .int .i64 0, .bool false, .slice none 0 0] 37)) (w.heap.size + 1) (.int .i64 2) t0 (.bool false) (.slice none 0 0) 0 false := by
      have := Blk.new (w.alloc o1) 37 #[.int .i64 2, t0, .bool false, .int .i64 0, .bool false, .slice none 0 0]
      rwa [show (w.alloc o1).heap.size = w.heap.size + 1 by simp] at this
    refine (operation_any (l.drop n) (w.heap.size + 1) _ _ _ _ 0 false _ (he.below ((((Below.refl _ w).alloc (Nat.le_refl _) _).alloc (by simp) _).mono (by omega))) hb (by omega)).mono ?_
    intro e w' h
    unfold OpEnd at h
    rw [hs] at h
    rw [hcl]
    exact h)
  have HWI := hide (fun W (hE : WEnv W) => within_any k op W hE hk)
  have hwk : withinW k op < 6 := within_lt k op
  have HWD : Hid (∀ W, WEnv W → Calls Tryz.prog 26 #[.int .i64 ((withinW k op : Nat) : Int), .string (BA t)] W fun e w' => WEnd (rdC true (withinW k op) t).word W e w') := hide (fun W hE => hW (withinW k op) t W hE hwk (by omega) (by omega))
  rw [hR] at HWD
  have HE := hide he
  have HCL := hide hcl
  clear hp hw hs hn he hW hcl hR hwk htl hlN
  have hways : ((l.head? == some 35) = false) ∨ ((l.head? == some 35) = true ∧ l.drop 1 = []) ∨ ((l.head? == some 35) = true ∧ l.drop 1 ≠ [] ∧ parN (l.drop 1) ≠ (l.drop 1).length) := by
    by_cases h1 : l.head? = some 35
    · by_cases h2 : l.drop 1 = []
      · exact .inr (.inl ⟨by simpa using h1, h2⟩)
      · exact .inr (.inr ⟨by simpa using h1, h2, fun h3 => hnot ⟨h1, h2, h3⟩⟩)
    · exact .inl (by simpa using h1)
  have HCT : Hid (∀ W, Calls Tryz.prog 108 #[.string (BA l), .string ⟨#[35]⟩] W fun e w' => e = .returned (.tuple #[.string (BA (if (l.head? == some 35) then l.drop 1 else l)), .bool (l.head? == some 35)]) ∧ w' = W) := hide (fun W => by
    have := Tryz.strings_CutPrefix (BA l) ⟨#[35]⟩ W
    rw [show Lib.hasPrefix (BA l).data.toList (⟨#[35]⟩ : ByteArray).data.toList = (l.head? == some 35) from has35 l, show Lib.trimPrefix (BA l).data.toList (⟨#[35]⟩ : ByteArray).data.toList = (if (l.head? == some 35) then l.drop 1 else l) from by unfold Lib.trimPrefix; rw [has35]; rfl] at this
    exact this)
  clear hnot
  rcases hways with h1 | ⟨h1, h2⟩ | ⟨h1, h2, h3⟩
  · rw [h1] at HCT
    simp only [Bool.false_eq_true, if_false] at HCT
    clear h1
    go_enter Tryz.func93, Tryz.ntmps93
    go_wp2_with fail
    refine (unhide HCT _).mono ?_
    rintro e w1 ⟨rfl, hw1⟩
    have hw2 := hw1.symm
    subst hw2
    clear hw1
    go_wp2_with fail
    refine (unhide HPL _).mono ?_
    rintro e w1 ⟨rfl, hw1⟩
    have hw2 := hw1.symm
    subst hw2
    clear hw1
    go_wp2_with fail
    rw [unhide HX]
    refine (unhide HOP _ _).mono ?_
    rintro e w3 ⟨rfl, g3, hpb3⟩
    have HB3 := hide ((((Below.refl _ w).alloc (Nat.le_refl _) _).alloc (by simp) _).trans (g3.below (n := w.heap.size) (by simp; omega) (fun k e => by omega)))
    have HE3 := hide ((unhide HE).below ((unhide HB3).mono (by omega)))
    have HZ3 := hide (Blk.grownS ((Blk.new w 37 #[.int .i64 0, .string ⟨#[]⟩, .bool false, .int .i64 0, .bool false, .slice none 0 0]).alloc _) g3 (by simp))
    have p3 : w3.cell? ⟨w.heap.size + 1, 3, none⟩ = some (.int .i64 op) := Blk.cell hpb3 3 rfl
    have HP3 := hide hpb3
    clear g3 HOP hpb3
    go_wp2_with fail
    refine (unhide HWI _ (unhide HE3)).mono ?_
    rintro e w4 ⟨rfl, hw4⟩
    have hw5 := hw4.symm
    subst hw5
    clear hw4
    go_wp2_with fail
    refine (unhide HWD _ (unhide HE3)).mono ?_
    rintro e w5 ⟨rfl, hx, b5⟩
    have hx1 : (x != 0) = true := by simpa using hx
    have HXX := hide hx
    have HBZ := hide (Blk.below (unhide HZ3) b5 (Blk.lt (unhide HZ3)))
    have HBB := hide ((unhide HB3).trans (b5.mono (unhide HB3).size))
    have z0 : w5.cell? ⟨w.heap.size, 0, none⟩ = some (.int .i64 0) := (unhide HBZ).cell 0 rfl
    have z1 : w5.cell? ⟨w.heap.size, 1, none⟩ = some (.string ⟨#[]⟩) := (unhide HBZ).cell 1 rfl
    have z2 : w5.cell? ⟨w.heap.size, 2, none⟩ = some (.bool false) := (unhide HBZ).cell 2 rfl
    have z3 : w5.cell? ⟨w.heap.size, 3, none⟩ = some (.int .i64 0) := (unhide HBZ).cell 3 rfl
    have z4 : w5.cell? ⟨w.heap.size, 4, none⟩ = some (.bool false) := (unhide HBZ).cell 4 rfl
    have z5 : w5.cell? ⟨w.heap.size, 5, none⟩ = some (.slice none 0 0) := (unhide HBZ).cell 5 rfl
    have zf : ∀ j, w5.frozen? ⟨w.heap.size, j, none⟩ = false := fun j => (unhide HBZ).frozen j
    clear b5 hx p3 HWD HWI
    go_wp2
    refine bodyPost_ret (v := .tuple #[.agg #[.int .i64 0, .string ⟨#[]⟩, .bool false, .int .i64 0, .bool false, .slice none 0 0], .int .i64 x]) (results_part2 rfl _ _ w.heap.size _ _ _ _ _ _ _ rfl rfl (blk_T6 (unhide HBZ) (.int .i64 0) (.string ⟨#[]⟩) (.bool false) (.int .i64 0) (.bool false) (.slice none 0 0))) rfl ?_
    exact ⟨rfl, unhide HXX, below_T6 (unhide HBB) _ _ _ _ _ _⟩
  · rw [h1, h2] at HCT
    simp only [if_true] at HCT
    have t2 : (BA []).toList.isEmpty = true := by rw [BA_toList]; rfl
    clear h1 h2
    go_enter Tryz.func93, Tryz.ntmps93
    go_wp2_with fail
    refine (unhide HCT _).mono ?_
    rintro e w1 ⟨rfl, hw1⟩
    have hw2 := hw1.symm
    subst hw2
    clear hw1
    go_wp2_with fail
    refine (unhide HPL _).mono ?_
    rintro e w1 ⟨rfl, hw1⟩
    have hw2 := hw1.symm
    subst hw2
    clear hw1
    go_wp2_with fail
    rw [unhide HX]
    refine (unhide HOP _ _).mono ?_
    rintro e w3 ⟨rfl, g3, hpb3⟩
    have HB3 := hide ((((Below.refl _ w).alloc (Nat.le_refl _) _).alloc (by simp) _).trans (g3.below (n := w.heap.size) (by simp; omega) (fun k e => by omega)))
    have HE3 := hide ((unhide HE).below ((unhide HB3).mono (by omega)))
    have HZ3 := hide (Blk.grownS ((Blk.new w 37 #[.int .i64 0, .string ⟨#[]⟩, .bool false, .int .i64 0, .bool false, .slice none 0 0]).alloc _) g3 (by simp))
    have p3 : w3.cell? ⟨w.heap.size + 1, 3, none⟩ = some (.int .i64 op) := Blk.cell hpb3 3 rfl
    have HP3 := hide hpb3
    clear g3 HOP hpb3
    go_wp2_with fail
    refine (unhide HWI _ (unhide HE3)).mono ?_
    rintro e w4 ⟨rfl, hw4⟩
    have hw5 := hw4.symm
    subst hw5
    clear hw4
    go_wp2_with fail
    refine (unhide HWD _ (unhide HE3)).mono ?_
    rintro e w5 ⟨rfl, hx, b5⟩
    have hx1 : (x != 0) = true := by simpa using hx
    have HXX := hide hx
    have HBZ := hide (Blk.below (unhide HZ3) b5 (Blk.lt (unhide HZ3)))
    have HBB := hide ((unhide HB3).trans (b5.mono (unhide HB3).size))
    have z0 : w5.cell? ⟨w.heap.size, 0, none⟩ = some (.int .i64 0) := (unhide HBZ).cell 0 rfl
    have z1 : w5.cell? ⟨w.heap.size, 1, none⟩ = some (.string ⟨#[]⟩) := (unhide HBZ).cell 1 rfl
    have z2 : w5.cell? ⟨w.heap.size, 2, none⟩ = some (.bool false) := (unhide HBZ).cell 2 rfl
    have z3 : w5.cell? ⟨w.heap.size, 3, none⟩ = some (.int .i64 0) := (unhide HBZ).cell 3 rfl
    have z4 : w5.cell? ⟨w.heap.size, 4, none⟩ = some (.bool false) := (unhide HBZ).cell 4 rfl
    have z5 : w5.cell? ⟨w.heap.size, 5, none⟩ = some (.slice none 0 0) := (unhide HBZ).cell 5 rfl
    have zf : ∀ j, w5.frozen? ⟨w.heap.size, j, none⟩ = false := fun j => (unhide HBZ).frozen j
    clear b5 hx p3 HWD HWI
    go_wp2
    refine bodyPost_ret (v := .tuple #[.agg #[.int .i64 0, .string ⟨#[]⟩, .bool false, .int .i64 0, .bool false, .slice none 0 0], .int .i64 x]) (results_part2 rfl _ _ w.heap.size _ _ _ _ _ _ _ rfl rfl (blk_T6 (unhide HBZ) (.int .i64 0) (.string ⟨#[]⟩) (.bool false) (.int .i64 0) (.bool false) (.slice none 0 0))) rfl ?_
    exact ⟨rfl, unhide HXX, below_T6 (unhide HBB) _ _ _ _ _ _⟩
  · rw [h1] at HCT
    simp only [if_true] at HCT
    obtain ⟨u, hu⟩ : ∃ u, u = l.drop 1 := ⟨_, rfl⟩
    have hul : u.length ≤ 4096 := by rw [hu]; simp; omega
    rw [← hu] at HCT h2 h3
    have HPU := hide (fun W => parameter_any (BA u) W (by simp; omega))
    simp only [BA_list] at HPU
    have t2 : (BA u).toList.isEmpty = false := by
      rw [BA_toList]
      cases u with
      | nil => exact absurd rfl h2
      | cons _ _ => rfl
    obtain ⟨pu, hpu⟩ : ∃ x, x = parN u := ⟨_, rfl⟩
    rw [← hpu] at HPU h3
    have h3' : ((pu : Int) == (u.length : Int)) = false := by rw [beq_eq_false_iff_ne]; omega
    clear hu h1 h2 h3 hpu
    go_enter Tryz.func93, Tryz.ntmps93
    go_wp2_with fail
    refine (unhide HCT _).mono ?_
    rintro e w1 ⟨rfl, hw1⟩
    have hw2 := hw1.symm
    subst hw2
    clear hw1
    go_wp2_with fail
    refine (unhide HPU _).mono ?_
    rintro e w1 ⟨rfl, hw1⟩
    have hw2 := hw1.symm
    subst hw2
    clear hw1
    go_wp2_with fail
    refine (unhide HPL _).mono ?_
    rintro e w1 ⟨rfl, hw1⟩
    have hw2 := hw1.symm
    subst hw2
    clear hw1
    go_wp2_with fail
    rw [unhide HX]
    refine (unhide HOP _ _).mono ?_
    rintro e w3 ⟨rfl, g3, hpb3⟩
    have HB3 := hide ((((Below.refl _ w).alloc (Nat.le_refl _) _).alloc (by simp) _).trans (g3.below (n := w.heap.size) (by simp; omega) (fun k e => by omega)))
    have HE3 := hide ((unhide HE).below ((unhide HB3).mono (by omega)))
    have HZ3 := hide (Blk.grownS ((Blk.new w 37 #[.int .i64 0, .string ⟨#[]⟩, .bool false, .int .i64 0, .bool false, .slice none 0 0]).alloc _) g3 (by simp))
    have p3 : w3.cell? ⟨w.heap.size + 1, 3, none⟩ = some (.int .i64 op) := Blk.cell hpb3 3 rfl
    have HP3 := hide hpb3
    clear g3 HOP hpb3
    go_wp2_with fail
    refine (unhide HWI _ (unhide HE3)).mono ?_
    rintro e w4 ⟨rfl, hw4⟩
    have hw5 := hw4.symm
    subst hw5
    clear hw4
    go_wp2_with fail
    refine (unhide HWD _ (unhide HE3)).mono ?_
    rintro e w5 ⟨rfl, hx, b5⟩
    have hx1 : (x != 0) = true := by simpa using hx
    have HXX := hide hx
    have HBZ := hide (Blk.below (unhide HZ3) b5 (Blk.lt (unhide HZ3)))
    have HBB := hide ((unhide HB3).trans (b5.mono (unhide HB3).size))
    have z0 : w5.cell? ⟨w.heap.size, 0, none⟩ = some (.int .i64 0) := (unhide HBZ).cell 0 rfl
    have z1 : w5.cell? ⟨w.heap.size, 1, none⟩ = some (.string ⟨#[]⟩) := (unhide HBZ).cell 1 rfl
    have z2 : w5.cell? ⟨w.heap.size, 2, none⟩ = some (.bool false) := (unhide HBZ).cell 2 rfl
    have z3 : w5.cell? ⟨w.heap.size, 3, none⟩ = some (.int .i64 0) := (unhide HBZ).cell 3 rfl
    have z4 : w5.cell? ⟨w.heap.size, 4, none⟩ = some (.bool false) := (unhide HBZ).cell 4 rfl
    have z5 : w5.cell? ⟨w.heap.size, 5, none⟩ = some (.slice none 0 0) := (unhide HBZ).cell 5 rfl
    have zf : ∀ j, w5.frozen? ⟨w.heap.size, j, none⟩ = false := fun j => (unhide HBZ).frozen j
    clear b5 hx p3 HWD HWI
    go_wp2
    refine bodyPost_ret (v := .tuple #[.agg #[.int .i64 0, .string ⟨#[]⟩, .bool false, .int .i64 0, .bool false, .slice none 0 0], .int .i64 x]) (results_part2 rfl _ _ w.heap.size _ _ _ _ _ _ _ rfl rfl (blk_T6 (unhide HBZ) (.int .i64 0) (.string ⟨#[]⟩) (.bool false) (.int .i64 0) (.bool false) (.slice none 0 0))) rfl ?_
    exact ⟨rfl, unhide HXX, below_T6 (unhide HBB) _ _ _ _ _ _⟩
set_option maxRecDepth 20000 in
set_option maxHeartbeats 4000000 in
theorem brace_ok {N : Nat} (hW : WordN N) (k : Nat) (l : List UInt8) (w : World) (hl : l.length ≤ 4096) (hnot : ¬ (l.head? = some 35 ∧ l.drop 1 ≠ [] ∧ parN (l.drop 1) = (l.drop 1).length)) (he : WEnv w) (hk : k < 6) (hlN : l.length ≤ N) (hp : parN l ≠ 0) (hw : parN l ≠ l.length) (op : Int) (t : List UInt8) (hs : sgnL (colonL (l.drop (parN l))) (behindL (l.drop (parN l))) = some (op, t)) (ps : List Prt) (hR : (rdC true (withinW k op) t).word = .ok ps) :
    Calls Tryz.prog 93 #[.int .i64 (k : Int), .string (BA l)] w fun e w' => BrEnd (.ok (.mk 2 (l.take (parN l)) false op (colonL (l.drop (parN l))) ps)) w e w' := by
  have HPL := hide (fun W => parameter_any (BA l) W (by simp; omega))
  simp only [BA_list] at HPL
  have hle := par_le l
  have htl : t.length ≤ l.length := by
    have h1 := sgn_len hs
    have h2 := behind_len (l.drop (parN l))
    have h3 : (l.drop (parN l)).length ≤ l.length := by simp
    omega
  obtain ⟨n, hn⟩ : ∃ n, n = parN l := ⟨_, rfl⟩
  rw [← hn] at HPL hp hw hs hle
  rw [← hn]
  have hp0 : ((n : Int) == 0) = false := by rw [beq_eq_false_iff_ne]; omega
  have hw0 : ((n : Int) == (l.length : Int)) = false := by rw [beq_eq_false_iff_ne]; omega
  have hn1 : (n : Int) ≤ (l.length : Int) := by omega
  have h2w := he.two
  have HX : Hid ((BA l).extract n l.length = BA (l.drop n)) := hide (by have := extract_end (BA l) n; simpa using this)
  have HXT : Hid ((BA l).extract 0 n = BA (l.take n)) := hide (by have := extract_take (BA l) 0 n; simpa using this)
  obtain ⟨cl, hcl⟩ : ∃ x, x = colonL (l.drop n) := ⟨_, rfl⟩
  have HOP : Hid (∀ o1 t0, Calls Tryz.prog 110 #[.pointer (some ⟨w.heap.size + 1, 0, none⟩), .string (BA (l.drop n))] ((w.alloc o1).alloc (.cells #[.int .i64 2, t0, .bool false, .int .i64 0, .bool false, .slice none 0 0] 37)) fun e w' => e = .returned (.tuple #[.string (BA t), .bool true]) ∧ GrownS ((w.alloc o1).alloc (.cells #[.int .i64 2, t0, .bool false, .int .i64 0, .bool false, .slice none 0 0] 37)) w' (fun k => k = w.heap.size + 1) ∧ PBk w' (w.heap.size + 1) (.int .i64 2) t0 (.bool false) (.slice none 0 0) op cl) := hide (fun o1 t0 => by
    have hb : PBk ((w.alloc o1).alloc (.cells #[.int .i64 2, t0, .bool false, .int .i64 0, .bool false, .slice none 0 0] 37)) (w.heap.size + 1) (.int .i64 2) t0 (.bool false) (.slice none 0 0) 0 false := by
      have := Blk.new (w.alloc o1) 37 #[.int .i64 2, t0, .bool false, .int .i64 0, .bool false, .slice none 0 0]
      rwa [show (w.alloc o1).heap.size = w.heap.size + 1 by simp] at this
    refine (operation_any (l.drop n) (w.heap.size + 1) _ _ _ _ 0 false _ (he.below ((((Below.refl _ w).alloc (Nat.le_refl _) _).alloc (by simp) _).mono (by omega))) hb (by omega)).mono ?_
    intro e w' h
    unfold OpEnd at h
    rw [hs] at h
    rw [hcl]
    exact h)
  have HWI := hide (fun W (hE : WEnv W) => within_any k op W hE hk)
  have hwk : withinW k op < 6 := within_lt k op
  have HWD : Hid (∀ W, WEnv W → Calls Tryz.prog 26 #[.int .i64 ((withinW k op : Nat) : Int), .string (BA t)] W fun e w' => WEnd (rdC true (withinW k op) t).word W e w') := hide (fun W hE => hW (withinW k op) t W hE hwk (by omega) (by omega))
  rw [hR] at HWD
  have HE := hide he
  have HCL := hide hcl
  clear hp hw hs hn he hW hcl hR hwk htl hlN
  have hways : ((l.head? == some 35) = false) ∨ ((l.head? == some 35) = true ∧ l.drop 1 = []) ∨ ((l.head? == some 35) = true ∧ l.drop 1 ≠ [] ∧ parN (l.drop 1) ≠ (l.drop 1).length) := by
    by_cases h1 : l.head? = some 35
    · by_cases h2 : l.drop 1 = []
      · exact .inr (.inl ⟨by simpa using h1, h2⟩)
      · exact .inr (.inr ⟨by simpa using h1, h2, fun h3 => hnot ⟨h1, h2, h3⟩⟩)
    · exact .inl (by simpa using h1)
  have HCT : Hid (∀ W, Calls Tryz.prog 108 #[.string (BA l), .string ⟨#[35]⟩] W fun e w' => e = .returned (.tuple #[.string (BA (if (l.head? == some 35) then l.drop 1 else l)), .bool (l.head? == some 35)]) ∧ w' = W) := hide (fun W => by
    have := Tryz.strings_CutPrefix (BA l) ⟨#[35]⟩ W
    rw [show Lib.hasPrefix (BA l).data.toList (⟨#[35]⟩ : ByteArray).data.toList = (l.head? == some 35) from has35 l, show Lib.trimPrefix (BA l).data.toList (⟨#[35]⟩ : ByteArray).data.toList = (if (l.head? == some 35) then l.drop 1 else l) from by unfold Lib.trimPrefix; rw [has35]; rfl] at this
    exact this)
  clear hnot
  rcases hways with h1 | ⟨h1, h2⟩ | ⟨h1, h2, h3⟩
  · rw [h1] at HCT
    simp only [Bool.false_eq_true, if_false] at HCT
    clear h1
    go_enter Tryz.func93, Tryz.ntmps93
    go_wp2_with fail
    refine (unhide HCT _).mono ?_
    rintro e w1 ⟨rfl, hw1⟩
    have hw2 := hw1.symm
    subst hw2
    clear hw1
    go_wp2_with fail
    refine (unhide HPL _).mono ?_
    rintro e w1 ⟨rfl, hw1⟩
    have hw2 := hw1.symm
    subst hw2
    clear hw1
    go_wp2_with fail
    rw [unhide HX]
    refine (unhide HOP _ _).mono ?_
    rintro e w3 ⟨rfl, g3, hpb3⟩
    have HB3 := hide ((((Below.refl _ w).alloc (Nat.le_refl _) _).alloc (by simp) _).trans (g3.below (n := w.heap.size) (by simp; omega) (fun k e => by omega)))
    have HE3 := hide ((unhide HE).below ((unhide HB3).mono (by omega)))
    have HZ3 := hide (Blk.grownS ((Blk.new w 37 #[.int .i64 0, .string ⟨#[]⟩, .bool false, .int .i64 0, .bool false, .slice none 0 0]).alloc _) g3 (by simp))
    have p3 : w3.cell? ⟨w.heap.size + 1, 3, none⟩ = some (.int .i64 op) := Blk.cell hpb3 3 rfl
    have HP3 := hide hpb3
    clear g3 HOP hpb3
    go_wp2_with fail
    refine (unhide HWI _ (unhide HE3)).mono ?_
    rintro e w4 ⟨rfl, hw4⟩
    have hw5 := hw4.symm
    subst hw5
    clear hw4
    go_wp2_with fail
    refine (unhide HWD _ (unhide HE3)).mono ?_
    rintro e w5 ⟨v, rfl, b5, hv⟩
    obtain ⟨va, vc, rfl, _⟩ := hv.len
    have hP5 := Blk.below (unhide HP3) b5 (Blk.lt (unhide HP3))
    have q0 : w5.cell? ⟨w.heap.size + 1, 0, none⟩ = some (.int .i64 2) := hP5.cell 0 rfl
    have q1 : w5.cell? ⟨w.heap.size + 1, 1, none⟩ = some (.string ((BA l).extract 0 n)) := hP5.cell 1 rfl
    have q2 : w5.cell? ⟨w.heap.size + 1, 2, none⟩ = some (.bool false) := hP5.cell 2 rfl
    have q3 : w5.cell? ⟨w.heap.size + 1, 3, none⟩ = some (.int .i64 op) := hP5.cell 3 rfl
    have q4 : w5.cell? ⟨w.heap.size + 1, 4, none⟩ = some (.bool cl) := hP5.cell 4 rfl
    have q5 : w5.cell? ⟨w.heap.size + 1, 5, none⟩ = some (.slice none 0 0) := hP5.cell 5 rfl
    have qf : ∀ j, w5.frozen? ⟨w.heap.size + 1, j, none⟩ = false := fun j => hP5.frozen j
    have HBZ := hide (Blk.below (unhide HZ3) b5 (Blk.lt (unhide HZ3)))
    have HBB := hide ((unhide HB3).trans (b5.mono (unhide HB3).size))
    have z0 : w5.cell? ⟨w.heap.size, 0, none⟩ = some (.int .i64 0) := (unhide HBZ).cell 0 rfl
    have z1 : w5.cell? ⟨w.heap.size, 1, none⟩ = some (.string ⟨#[]⟩) := (unhide HBZ).cell 1 rfl
    have z2 : w5.cell? ⟨w.heap.size, 2, none⟩ = some (.bool false) := (unhide HBZ).cell 2 rfl
    have z3 : w5.cell? ⟨w.heap.size, 3, none⟩ = some (.int .i64 0) := (unhide HBZ).cell 3 rfl
    have z4 : w5.cell? ⟨w.heap.size, 4, none⟩ = some (.bool false) := (unhide HBZ).cell 4 rfl
    have z5 : w5.cell? ⟨w.heap.size, 5, none⟩ = some (.slice none 0 0) := (unhide HBZ).cell 5 rfl
    have zf : ∀ j, w5.frozen? ⟨w.heap.size, j, none⟩ = false := fun j => (unhide HBZ).frozen j
    have HV := hide hv
    have HB5 := hide b5
    have hlt5 : w.heap.size + 1 < w5.heap.size := by have h1 := Blk.lt (unhide HP3); have := b5.size; omega
    have HL3 := hide (Blk.lt (unhide HP3))
    clear b5 hv hP5 p3 HWD HWI
    go_wp2
    refine bodyPost_ret (v := .tuple #[.agg #[.int .i64 2, .string ((BA l).extract 0 n), .bool false, .int .i64 op, .bool cl, .slice va ps.length vc], .int .i64 0]) (results_part2 rfl _ _ w.heap.size _ _ _ _ _ _ _ rfl rfl (blk_T6 (Blk.other (unhide HBZ) (a := ⟨w.heap.size + 1, 5, none⟩) (by simp) _) (.int .i64 2) (.string ((BA l).extract 0 n)) (.bool false) (.int .i64 op) (.bool cl) (.slice va ps.length vc))) rfl ?_
    rw [unhide HXT, ← unhide HCL]
    have hgs : GrownS w5 (T6 (w5.setCell ⟨w.heap.size + 1, 5, none⟩ (.slice va ps.length vc)) w.heap.size 0 (.int .i64 2) (.string (BA (l.take n))) (.bool false) (.int .i64 op) (.bool cl) (.slice va ps.length vc)) (fun k => k = w.heap.size ∨ k = w.heap.size + 1) := ((setb_grown _ _ _ _).mono (fun k _ e => .inr e)).trans ((T6_grown ..).mono (fun k _ e => .inl e))
    refine ⟨_, rfl, (unhide HBB).trans (hgs.below (unhide HBB).size (fun k e => by omega)), ?_⟩
    exact (unhide HV).kept (fun k hk => hgs.block k hk.2 (fun e => by have := unhide HL3; omega)) (fun k hk => ⟨by have := (unhide HB3).size; omega, Nat.lt_of_lt_of_le hk.2 hgs.size⟩)
  · rw [h1, h2] at HCT
    simp only [if_true] at HCT
    have t2 : (BA []).toList.isEmpty = true := by rw [BA_toList]; rfl
    clear h1 h2
    go_enter Tryz.func93, Tryz.ntmps93
    go_wp2_with fail
    refine (unhide HCT _).mono ?_
    rintro e w1 ⟨rfl, hw1⟩
    have hw2 := hw1.symm
    subst hw2
    clear hw1
    go_wp2_with fail
    refine (unhide HPL _).mono ?_
    rintro e w1 ⟨rfl, hw1⟩
    have hw2 := hw1.symm
    subst hw2
    clear hw1
    go_wp2_with fail
    rw [unhide HX]
    refine (unhide HOP _ _).mono ?_
    rintro e w3 ⟨rfl, g3, hpb3⟩
    have HB3 := hide ((((Below.refl _ w).alloc (Nat.le_refl _) _).alloc (by simp) _).trans (g3.below (n := w.heap.size) (by simp; omega) (fun k e => by omega)))
    have HE3 := hide ((unhide HE).below ((unhide HB3).mono (by omega)))
    have HZ3 := hide (Blk.grownS ((Blk.new w 37 #[.int .i64 0, .string ⟨#[]⟩, .bool false, .int .i64 0, .bool false, .slice none 0 0]).alloc _) g3 (by simp))
    have p3 : w3.cell? ⟨w.heap.size + 1, 3, none⟩ = some (.int .i64 op) := Blk.cell hpb3 3 rfl
    have HP3 := hide hpb3
    clear g3 HOP hpb3
    go_wp2_with fail
    refine (unhide HWI _ (unhide HE3)).mono ?_
    rintro e w4 ⟨rfl, hw4⟩
    have hw5 := hw4.symm
    subst hw5
    clear hw4
    go_wp2_with fail
    refine (unhide HWD _ (unhide HE3)).mono ?_
    rintro e w5 ⟨v, rfl, b5, hv⟩
    obtain ⟨va, vc, rfl, _⟩ := hv.len
    have hP5 := Blk.below (unhide HP3) b5 (Blk.lt (unhide HP3))
    have q0 : w5.cell? ⟨w.heap.size + 1, 0, none⟩ = some (.int .i64 2) := hP5.cell 0 rfl
    have q1 : w5.cell? ⟨w.heap.size + 1, 1, none⟩ = some (.string ((BA l).extract 0 n)) := hP5.cell 1 rfl
    have q2 : w5.cell? ⟨w.heap.size + 1, 2, none⟩ = some (.bool false) := hP5.cell 2 rfl
    have q3 : w5.cell? ⟨w.heap.size + 1, 3, none⟩ = some (.int .i64 op) := hP5.cell 3 rfl
    have q4 : w5.cell? ⟨w.heap.size + 1, 4, none⟩ = some (.bool cl) := hP5.cell 4 rfl
    have q5 : w5.cell? ⟨w.heap.size + 1, 5, none⟩ = some (.slice none 0 0) := hP5.cell 5 rfl
    have qf : ∀ j, w5.frozen? ⟨w.heap.size + 1, j, none⟩ = false := fun j => hP5.frozen j
    have HBZ := hide (Blk.below (unhide HZ3) b5 (Blk.lt (unhide HZ3)))
    have HBB := hide ((unhide HB3).trans (b5.mono (unhide HB3).size))
    have z0 : w5.cell? ⟨w.heap.size, 0, none⟩ = some (.int .i64 0) := (unhide HBZ).cell 0 rfl
    have z1 : w5.cell? ⟨w.heap.size, 1, none⟩ = some (.string ⟨#[]⟩) := (unhide HBZ).cell 1 rfl
    have z2 : w5.cell? ⟨w.heap.size, 2, none⟩ = some (.bool false) := (unhide HBZ).cell 2 rfl
    have z3 : w5.cell? ⟨w.heap.size, 3, none⟩ = some (.int .i64 0) := (unhide HBZ).cell 3 rfl
    have z4 : w5.cell? ⟨w.heap.size, 4, none⟩ = some (.bool false) := (unhide HBZ).cell 4 rfl
    have z5 : w5.cell? ⟨w.heap.size, 5, none⟩ = some (.slice none 0 0) := (unhide HBZ).cell 5 rfl
    have zf : ∀ j, w5.frozen? ⟨w.heap.size, j, none⟩ = false := fun j => (unhide HBZ).frozen j
    have HV := hide hv
    have HB5 := hide b5
    have hlt5 : w.heap.size + 1 < w5.heap.size := by have h1 := Blk.lt (unhide HP3); have := b5.size; omega
    have HL3 := hide (Blk.lt (unhide HP3))
    clear b5 hv hP5 p3 HWD HWI
    go_wp2
    refine bodyPost_ret (v := .tuple #[.agg #[.int .i64 2, .string ((BA l).extract 0 n), .bool false, .int .i64 op, .bool cl, .slice va ps.length vc], .int .i64 0]) (results_part2 rfl _ _ w.heap.size _ _ _ _ _ _ _ rfl rfl (blk_T6 (Blk.other (unhide HBZ) (a := ⟨w.heap.size + 1, 5, none⟩) (by simp) _) (.int .i64 2) (.string ((BA l).extract 0 n)) (.bool false) (.int .i64 op) (.bool cl) (.slice va ps.length vc))) rfl ?_
    rw [unhide HXT, ← unhide HCL]
    have hgs : GrownS w5 (T6 (w5.setCell ⟨w.heap.size + 1, 5, none⟩ (.slice va ps.length vc)) w.heap.size 0 (.int .i64 2) (.string (BA (l.take n))) (.bool false) (.int .i64 op) (.bool cl) (.slice va ps.length vc)) (fun k => k = w.heap.size ∨ k = w.heap.size + 1) := ((setb_grown _ _ _ _).mono (fun k _ e => .inr e)).trans ((T6_grown ..).mono (fun k _ e => .inl e))
    refine ⟨_, rfl, (unhide HBB).trans (hgs.below (unhide HBB).size (fun k e => by omega)), ?_⟩
    exact (unhide HV).kept (fun k hk => hgs.block k hk.2 (fun e => by have := unhide HL3; omega)) (fun k hk => ⟨by have := (unhide HB3).size; omega, Nat.lt_of_lt_of_le hk.2 hgs.size⟩)
  · rw [h1] at HCT
    simp only [if_true] at HCT
    obtain ⟨u, hu⟩ : ∃ u, u = l.drop 1 := ⟨_, rfl⟩
    have hul : u.length ≤ 4096 := by rw [hu]; simp; omega
    rw [← hu] at HCT h2 h3
    have HPU := hide (fun W => parameter_any (BA u) W (by simp; omega))
    simp only [BA_list] at HPU
    have t2 : (BA u).toList.isEmpty = false := by
      rw [BA_toList]
      cases u with
      | nil => exact absurd rfl h2
      | cons _ _ => rfl
    obtain ⟨pu, hpu⟩ : ∃ x, x = parN u := ⟨_, rfl⟩
    rw [← hpu] at HPU h3
    have h3' : ((pu : Int) == (u.length : Int)) = false := by rw [beq_eq_false_iff_ne]; omega
    clear hu h1 h2 h3 hpu
    go_enter Tryz.func93, Tryz.ntmps93
    go_wp2_with fail
    refine (unhide HCT _).mono ?_
    rintro e w1 ⟨rfl, hw1⟩
    have hw2 := hw1.symm
    subst hw2
    clear hw1
    go_wp2_with fail
    refine (unhide HPU _).mono ?_
    rintro e w1 ⟨rfl, hw1⟩
    have hw2 := hw1.symm
    subst hw2
    clear hw1
    go_wp2_with fail
    refine (unhide HPL _).mono ?_
    rintro e w1 ⟨rfl, hw1⟩
    have hw2 := hw1.symm
    subst hw2
    clear hw1
    go_wp2_with fail
    rw [unhide HX]
    refine (unhide HOP _ _).mono ?_
    rintro e w3 ⟨rfl, g3, hpb3⟩
    have HB3 := hide ((((Below.refl _ w).alloc (Nat.le_refl _) _).alloc (by simp) _).trans (g3.below (n := w.heap.size) (by simp; omega) (fun k e => by omega)))
    have HE3 := hide ((unhide HE).below ((unhide HB3).mono (by omega)))
    have HZ3 := hide (Blk.grownS ((Blk.new w 37 #[.int .i64 0, .string ⟨#[]⟩, .bool false, .int .i64 0, .bool false, .slice none 0 0]).alloc _) g3 (by simp))
    have p3 : w3.cell? ⟨w.heap.size + 1, 3, none⟩ = some (.int .i64 op) := Blk.cell hpb3 3 rfl
    have HP3 := hide hpb3
    clear g3 HOP hpb3
    go_wp2_with fail
    refine (unhide HWI _ (unhide HE3)).mono ?_
    rintro e w4 ⟨rfl, hw4⟩
    have hw5 := hw4.symm
    subst hw5
    clear hw4
    go_wp2_with fail
    refine (unhide HWD _ (unhide HE3)).mono ?_
    rintro e w5 ⟨v, rfl, b5, hv⟩
    obtain ⟨va, vc, rfl, _⟩ := hv.len
    have hP5 := Blk.below (unhide HP3) b5 (Blk.lt (unhide HP3))
    have q0 : w5.cell? ⟨w.heap.size + 1, 0, none⟩ = some (.int .i64 2) := hP5.cell 0 rfl
    have q1 : w5.cell? ⟨w.heap.size + 1, 1, none⟩ = some (.string ((BA l).extract 0 n)) := hP5.cell 1 rfl
    have q2 : w5.cell? ⟨w.heap.size + 1, 2, none⟩ = some (.bool false) := hP5.cell 2 rfl
    have q3 : w5.cell? ⟨w.heap.size + 1, 3, none⟩ = some (.int .i64 op) := hP5.cell 3 rfl
    have q4 : w5.cell? ⟨w.heap.size + 1, 4, none⟩ = some (.bool cl) := hP5.cell 4 rfl
    have q5 : w5.cell? ⟨w.heap.size + 1, 5, none⟩ = some (.slice none 0 0) := hP5.cell 5 rfl
    have qf : ∀ j, w5.frozen? ⟨w.heap.size + 1, j, none⟩ = false := fun j => hP5.frozen j
    have HBZ := hide (Blk.below (unhide HZ3) b5 (Blk.lt (unhide HZ3)))
    have HBB := hide ((unhide HB3).trans (b5.mono (unhide HB3).size))
    have z0 : w5.cell? ⟨w.heap.size, 0, none⟩ = some (.int .i64 0) := (unhide HBZ).cell 0 rfl
    have z1 : w5.cell? ⟨w.heap.size, 1, none⟩ = some (.string ⟨#[]⟩) := (unhide HBZ).cell 1 rfl
    have z2 : w5.cell? ⟨w.heap.size, 2, none⟩ = some (.bool false) := (unhide HBZ).cell 2 rfl
    have z3 : w5.cell? ⟨w.heap.size, 3, none⟩ = some (.int .i64 0) := (unhide HBZ).cell 3 rfl
    have z4 : w5.cell? ⟨w.heap.size, 4, none⟩ = some (.bool false) := (unhide HBZ).cell 4 rfl
    have z5 : w5.cell? ⟨w.heap.size, 5, none⟩ = some (.slice none 0 0) := (unhide HBZ).cell 5 rfl
    have zf : ∀ j, w5.frozen? ⟨w.heap.size, j, none⟩ = false := fun j => (unhide HBZ).frozen j
    have HV := hide hv
    have HB5 := hide b5
    have hlt5 : w.heap.size + 1 < w5.heap.size := by have h1 := Blk.lt (unhide HP3); have := b5.size; omega
    have HL3 := hide (Blk.lt (unhide HP3))
    clear b5 hv hP5 p3 HWD HWI
    go_wp2
    refine bodyPost_ret (v := .tuple #[.agg #[.int .i64 2, .string ((BA l).extract 0 n), .bool false, .int .i64 op, .bool cl, .slice va ps.length vc], .int .i64 0]) (results_part2 rfl _ _ w.heap.size _ _ _ _ _ _ _ rfl rfl (blk_T6 (Blk.other (unhide HBZ) (a := ⟨w.heap.size + 1, 5, none⟩) (by simp) _) (.int .i64 2) (.string ((BA l).extract 0 n)) (.bool false) (.int .i64 op) (.bool cl) (.slice va ps.length vc))) rfl ?_
    rw [unhide HXT, ← unhide HCL]
    have hgs : GrownS w5 (T6 (w5.setCell ⟨w.heap.size + 1, 5, none⟩ (.slice va ps.length vc)) w.heap.size 0 (.int .i64 2) (.string (BA (l.take n))) (.bool false) (.int .i64 op) (.bool cl) (.slice va ps.length vc)) (fun k => k = w.heap.size ∨ k = w.heap.size + 1) := ((setb_grown _ _ _ _).mono (fun k _ e => .inr e)).trans ((T6_grown ..).mono (fun k _ e => .inl e))
    refine ⟨_, rfl, (unhide HBB).trans (hgs.below (unhide HBB).size (fun k e => by omega)), ?_⟩
    exact (unhide HV).kept (fun k hk => hgs.block k hk.2 (fun e => by have := unhide HL3; omega)) (fun k hk => ⟨by have := (unhide HB3).size; omega, Nat.lt_of_lt_of_le hk.2 hgs.size⟩)

theorem wbrace_any {N : Nat} (hW : WordN N) (k : Nat) (l : List UInt8) (w : World) (he : WEnv w) (hk : k < 6) (hlN : l.length ≤ N) (hl : l.length ≤ 4096) :
    Calls Tryz.prog 93 #[.int .i64 (k : Int), .string (BA l)] w fun e w' => BrEnd (brcL (rdC true) k l) w e w' := by
  unfold brcL
  split
  · next h => exact brace_len k l w hl (by simp [h.1]) h.2.1 h.2.2
  next hnot =>
  split
  · next h => exact brace_no k l w hl hnot h
  next h0 =>
  split
  · next h => exact brace_whole k l w hl hnot h0 h
  next h1 =>
  cases hs : sgnL (colonL (l.drop (parN l))) (behindL (l.drop (parN l))) with
  | none => exact brace_bad k l w hl hnot he h0 h1 hs
  | some x =>
    obtain ⟨op, t⟩ := x
    cases hR : (rdC true (withinW k op) t).word with
    | err x =>
      simp only [hR]
      exact brace_err hW k l w hl hnot he hk hlN h0 h1 op t hs x hR
    | ok ps =>
      simp only [hR]
      exact brace_ok hW k l w hl hnot he hk hlN h0 h1 op t hs ps hR

end Go.Proofs.YtnamfjbfcbamjaaGreatDoor

/- The document's reader: brace. -/
namespace Go.Proofs.YtnamfjbfcbamjaaGreatDoor
open Go.RowKit

/-- What the document's read comes to, for texts of up to N bytes. -/
def RWordN (N : Nat) : Prop := ∀ (k : Nat) (l : List UInt8) (w : World), k < 6 → l.length ≤ N → l.length ≤ 4096 → Calls Tryz.prog 19 #[.string (BA l), .int .i64 (k : Int)] w fun e w' => WEnd (rdC false k l).word w e w'
/-- What brace comes to. -/
def RBrEnd (q : Bool) (r : Bd) (w : World) (b : Nat) (X : Nat → Prop) (ps : List Prt) (e : Ending) (w' : World) : Prop :=
  match r with
  | .ok p => e = .returned (.tuple #[]) ∧ RAdds w b X (addP ps (setQ q p)) 0 w'
  | .err x => e = .returned (.tuple #[]) ∧ x ≠ 0 ∧ ∃ qs, RAdds w b X qs x w'
def lenB (l : List UInt8) : Bool := decide (l.head? = some 35 ∧ l.drop 1 ≠ [] ∧ parN (l.drop 1) = (l.drop 1).length)
theorem head_i {ts : ByteArray} (hlt : 0 < ts.size) (n : Nat) (hn : n < 256) : (ts.data.toList.head? == some (UInt8.ofNat n)) = ((ts[0].toNat : Int) == (n : Int)) := by
  rw [head_get hlt]
  exact byte_is ts[0] n hn
theorem lenB_short {ts : ByteArray} (h : ¬ 1 < ts.size) : lenB ts.data.toList = false := by
  unfold lenB
  rw [decide_eq_false_iff_not]
  rintro ⟨_, h2, _⟩
  exact h2 (List.drop_eq_nil_of_le (by rw [data_len]; omega))
theorem lenB_no {ts : ByteArray} (hlt : 0 < ts.size) (h : ((ts[0].toNat : Int) == 35) = false) : lenB ts.data.toList = false := by
  unfold lenB
  rw [decide_eq_false_iff_not]
  rintro ⟨h1, _, _⟩
  have := head_i hlt 35 (by omega)
  rw [h1] at this
  rw [show (35 : Int) = ((35 : Nat) : Int) from rfl, ← this] at h
  revert h
  decide
theorem lenB_is {ts : ByteArray} (hlt : 1 < ts.size) (h : ((ts[0].toNat : Int) == 35) = true) : lenB ts.data.toList = ((parN (ts.data.toList.drop 1) : Int) == (ts.size : Int) - 1) := by
  unfold lenB
  have h1 : ts.data.toList.head? = some 35 := by
    have := head_i (ts := ts) (by omega) 35 (by omega)
    rw [show ((35 : Nat) : Int) = 35 from rfl, h] at this
    simpa using this
  have h2 : (ts.data.toList.drop 1).length = ts.size - 1 := by rw [List.length_drop, data_len]
  have h3 : ts.data.toList.drop 1 ≠ [] := fun e => by rw [e] at h2; simp at h2; omega
  rw [h2, Bool.eq_iff_iff, decide_eq_true_eq, beq_iff_eq]
  constructor
  · rintro ⟨_, _, h4⟩; omega
  · intro h4; exact ⟨h1, h3, by omega⟩
theorem brc_of {rd : Nat → List UInt8 → Rd} {k : Nat} {l : List UInt8} (h : lenB l = true) : brcL rd k l = .ok (.mk 2 (l.drop 1) false 1 false []) := by
  unfold brcL
  rw [if_pos (of_decide_eq_true h)]
theorem brc_no {rd : Nat → List UInt8 → Rd} {k : Nat} {l : List UInt8} (h : lenB l = false) (h0 : parN l = 0) : brcL rd k l = .err 10 := by
  unfold brcL
  rw [if_neg (of_decide_eq_false h), if_pos h0]
theorem brc_whole {rd : Nat → List UInt8 → Rd} {k : Nat} {l : List UInt8} (h : lenB l = false) (h0 : parN l ≠ 0) (h1 : parN l = l.length) : brcL rd k l = .ok (.mk 2 l false 0 false []) := by
  unfold brcL
  rw [if_neg (of_decide_eq_false h), if_neg h0, if_pos h1]
theorem brc_sgn {rd : Nat → List UInt8 → Rd} {k : Nat} {l : List UInt8} (h : lenB l = false) (h0 : parN l ≠ 0) (h1 : parN l ≠ l.length) : brcL rd k l = match sgnL (colonL (l.drop (parN l))) (behindL (l.drop (parN l))) with
    | none => .err 10
    | some (op, t) => match (rd (withinW k op) t).word with
      | .err e => .err e
      | .ok ps => .ok (.mk 2 (l.take (parN l)) false op (colonL (l.drop (parN l))) ps) := by
  unfold brcL
  rw [if_neg (of_decide_eq_false h), if_neg h0, if_neg h1]
  rfl
theorem ext_list (ts : ByteArray) (n : Nat) : (ts.extract n ts.size).data.toList = ts.data.toList.drop n := by
  have := extract_end ts n
  rw [this, BA_list]
theorem ext_to (ts : ByteArray) (n : Nat) : (ts.extract 0 n).data.toList = ts.data.toList.take n := by
  have := extract_take ts 0 n
  rw [Nat.zero_add] at this
  rw [this]
  simp

set_option maxRecDepth 20000 in
set_option maxHeartbeats 8000000 in
theorem rbr_len (k : Nat) (ts : ByteArray) (w : World) (b : Nat) (X : Nat → Prop) (ps : List Prt) (q : Bool) (hk : k < 6) (hq : allW k = q) (hs : ts.size ≤ 4096) (h : RWt w b X ps 0) (hr : Room ps (ts.size + 1)) (hg : lenB ts.data.toList = true)  :
    Calls Tryz.prog 49 #[.pointer (some ⟨b, 0, none⟩), .string ts, .int .i64 (k : Int)] w fun e w' => RBrEnd q (.ok (.mk 2 (ts.data.toList.drop 1) false 1 false [])) w b X ps e w' := by
  have HP : Hid (∀ (u : ByteArray) W, u.size ≤ 100000 → Calls Tryz.prog 65 #[.string u] W fun e w' => e = .returned (.int .i64 (parN u.data.toList : Int)) ∧ w' = W) := hide (fun u W hu => rparam_any u W hu)
  have HB0 : Hid (∀ o, Below w.heap.size w (w.alloc o)) := hide (fun o => (Below.refl _ w).alloc (Nat.le_refl _) _)
  have hbw := h.lt
  have HH := hide h
  have HR := hide hr
  have HG := hide hg
  have HAL := hide (fun W => rallw_any k W hk)
  rw [hq] at HAL
  have hce : ∀ o, (w.alloc o).cell? ⟨b, 1, none⟩ = some (.int .i64 0) := fun o => ((h.below (unhide HB0 o)).err 0).1
  have hfe : ∀ o, (w.alloc o).frozen? ⟨b, 1, none⟩ = false := fun o => ((h.below (unhide HB0 o)).err 0).2.1
  have HER : Hid (∀ o, RAdds w b X ps 10 ((w.setCell ⟨b, 1, none⟩ (.int .i64 10)).alloc o)) := hide (fun o => (h.err 10).2.2.below ((Below.refl _ _).alloc (Nat.le_refl _) _))
  have HA : Hid (∀ w1 (t : ByteArray) (o : Int), t.size ≤ ts.size → Below w.heap.size w w1 → Calls Tryz.prog 28 #[.pointer (some ⟨b, 0, none⟩), .agg #[.int .i64 2, .string t, .bool q, .int .i64 o, .bool false, .slice none 0 0]] w1 fun e w' => e = .returned (.tuple #[]) ∧ RAdds w b X (addP ps (.mk 2 t.data.toList q o false [])) 0 w') := hide (fun w1 t o ht hb =>
    (rplain_add w1 b X ps 0 2 t q o false (h.below hb) ⟨by have := hr.1; omega, by have := hr.2; omega⟩).mono (fun e w' ⟨h1, h3⟩ => ⟨h1, h3.of_below hb⟩))
  clear h hr hg hq
  have hxs : (ts.extract 1 ts.size).size ≤ ts.size := by rw [ByteArray.size_extract]; omega
  have HX := hide (ext_list ts 1)
  have h1 : 1 ≤ ts.size := by
    have := unhide HG
    rcases Nat.lt_or_ge 1 ts.size with e | e
    · omega
    · rw [lenB_short (by omega)] at this; cases this
  have h1i : (1 : Int) ≤ (ts.size : Int) := by omega
  go_enter Tryz.func49, Tryz.ntmps49
  go_wp2_with fail
  refine (unhide HAL _).mono ?_
  rintro e w1 ⟨rfl, rfl⟩
  go_upto_region 1 with fail
  go_cut [33] from 17 to 33 (fun c wx => c = .bool true ∧ wx = w1.alloc (.cells #[.int .i64 2, .string ⟨#[]⟩, .bool q, .int .i64 0, .bool false, .slice none 0 0] 37))
  case first =>
    by_cases h1 : 1 < ts.size
    · have h1i : (1 : Int) < (ts.size : Int) := by omega
      have h0 : 0 < ts.size := by omega
      cases e35 : ((ts[0].toNat : Int) == 35) with
      | true =>
        have hgl := hide ((unhide HG).symm.trans (lenB_is h1 e35))
        have hx := hide (ext_list ts 1)
        have hxs : (ts.extract 1 ts.size).size ≤ 100000 := by rw [ByteArray.size_extract]; omega
        have hwr : IntKind.i64.wrap ((ts.size : Int) - 1) = (ts.size : Int) - 1 := by rw [IntKind.wrap_i64]; omega
        go_wp2_with fail
        refine (unhide HP _ _ hxs).mono ?_
        rintro e w1 ⟨rfl, rfl⟩
        rw [unhide hx]
        go_wp2
        go_meet
        exact ⟨congrArg Value.bool (by rw [← List.drop_one]; exact (unhide hgl).symm), rfl⟩
      | false =>
        have hgl := (unhide HG).symm.trans (lenB_no h0 e35)
        first
        | exact Bool.noConfusion hgl
        | (go_wp2
           go_meet
           exact ⟨rfl, rfl⟩)
    · have h1i : ¬ (1 : Int) < (ts.size : Int) := by omega
      have hgl := (unhide HG).symm.trans (lenB_short h1)
      first
      | exact Bool.noConfusion hgl
      | (go_wp2
         go_meet
         exact ⟨rfl, rfl⟩)
  case rest =>
    obtain ⟨rfl, rfl⟩ := hcut
    go_wp2_with fail
    refine (unhide HA _ _ _ hxs (unhide HB0 _)).mono ?_
    rintro e w2 ⟨rfl, hR⟩
    have HRR := hide hR
    clear hR
    go_wp2
    first | refine bodyPost_end (res0 rfl _ _) rfl ?_ | refine bodyPost_ret (res0 rfl _ _) rfl ?_
    rw [unhide HX] at HRR
    exact ⟨rfl, unhide HRR⟩

set_option maxRecDepth 20000 in
set_option maxHeartbeats 8000000 in
theorem rbr_no (k : Nat) (ts : ByteArray) (w : World) (b : Nat) (X : Nat → Prop) (ps : List Prt) (q : Bool) (hk : k < 6) (hq : allW k = q) (hs : ts.size ≤ 4096) (h : RWt w b X ps 0) (hr : Room ps (ts.size + 1)) (hg : lenB ts.data.toList = false) (hn : parN ts.data.toList = 0) :
    Calls Tryz.prog 49 #[.pointer (some ⟨b, 0, none⟩), .string ts, .int .i64 (k : Int)] w fun e w' => RBrEnd q (.err 10) w b X ps e w' := by
  have HP : Hid (∀ (u : ByteArray) W, u.size ≤ 100000 → Calls Tryz.prog 65 #[.string u] W fun e w' => e = .returned (.int .i64 (parN u.data.toList : Int)) ∧ w' = W) := hide (fun u W hu => rparam_any u W hu)
  have HB0 : Hid (∀ o, Below w.heap.size w (w.alloc o)) := hide (fun o => (Below.refl _ w).alloc (Nat.le_refl _) _)
  have hbw := h.lt
  have HH := hide h
  have HR := hide hr
  have HG := hide hg
  have HAL := hide (fun W => rallw_any k W hk)
  rw [hq] at HAL
  have hce : ∀ o, (w.alloc o).cell? ⟨b, 1, none⟩ = some (.int .i64 0) := fun o => ((h.below (unhide HB0 o)).err 0).1
  have hfe : ∀ o, (w.alloc o).frozen? ⟨b, 1, none⟩ = false := fun o => ((h.below (unhide HB0 o)).err 0).2.1
  have HER : Hid (∀ o, RAdds w b X ps 10 ((w.setCell ⟨b, 1, none⟩ (.int .i64 10)).alloc o)) := hide (fun o => (h.err 10).2.2.below ((Below.refl _ _).alloc (Nat.le_refl _) _))
  have HA : Hid (∀ w1 (t : ByteArray) (o : Int), t.size ≤ ts.size → Below w.heap.size w w1 → Calls Tryz.prog 28 #[.pointer (some ⟨b, 0, none⟩), .agg #[.int .i64 2, .string t, .bool q, .int .i64 o, .bool false, .slice none 0 0]] w1 fun e w' => e = .returned (.tuple #[]) ∧ RAdds w b X (addP ps (.mk 2 t.data.toList q o false [])) 0 w') := hide (fun w1 t o ht hb =>
    (rplain_add w1 b X ps 0 2 t q o false (h.below hb) ⟨by have := hr.1; omega, by have := hr.2; omega⟩).mono (fun e w' ⟨h1, h3⟩ => ⟨h1, h3.of_below hb⟩))
  clear h hr hg hq
  have hs1 : ts.size ≤ 100000 := by omega
  go_enter Tryz.func49, Tryz.ntmps49
  go_wp2_with fail
  refine (unhide HAL _).mono ?_
  rintro e w1 ⟨rfl, rfl⟩
  go_upto_region 1 with fail
  go_cut [33] from 17 to 33 (fun c wx => c = .bool false ∧ wx = w1.alloc (.cells #[.int .i64 2, .string ⟨#[]⟩, .bool q, .int .i64 0, .bool false, .slice none 0 0] 37))
  case first =>
    by_cases h1 : 1 < ts.size
    · have h1i : (1 : Int) < (ts.size : Int) := by omega
      have h0 : 0 < ts.size := by omega
      cases e35 : ((ts[0].toNat : Int) == 35) with
      | true =>
        have hgl := hide ((unhide HG).symm.trans (lenB_is h1 e35))
        have hx := hide (ext_list ts 1)
        have hxs : (ts.extract 1 ts.size).size ≤ 100000 := by rw [ByteArray.size_extract]; omega
        have hwr : IntKind.i64.wrap ((ts.size : Int) - 1) = (ts.size : Int) - 1 := by rw [IntKind.wrap_i64]; omega
        go_wp2_with fail
        refine (unhide HP _ _ hxs).mono ?_
        rintro e w1 ⟨rfl, rfl⟩
        rw [unhide hx]
        go_wp2
        go_meet
        exact ⟨congrArg Value.bool (by rw [← List.drop_one]; exact (unhide hgl).symm), rfl⟩
      | false =>
        have hgl := (unhide HG).symm.trans (lenB_no h0 e35)
        first
        | exact Bool.noConfusion hgl
        | (go_wp2
           go_meet
           exact ⟨rfl, rfl⟩)
    · have h1i : ¬ (1 : Int) < (ts.size : Int) := by omega
      have hgl := (unhide HG).symm.trans (lenB_short h1)
      first
      | exact Bool.noConfusion hgl
      | (go_wp2
         go_meet
         exact ⟨rfl, rfl⟩)
  case rest =>
    obtain ⟨rfl, rfl⟩ := hcut
    go_wp2_with fail
    refine (unhide HP _ _ hs1).mono ?_
    rintro e w2 ⟨rfl, rfl⟩
    rw [hn]
    go_wp2
    first | refine bodyPost_end (res0 rfl _ _) rfl ?_ | refine bodyPost_ret (res0 rfl _ _) rfl ?_
    exact ⟨rfl, by decide, ps, unhide HER _⟩

set_option maxRecDepth 20000 in
set_option maxHeartbeats 8000000 in
theorem rbr_whole (k : Nat) (ts : ByteArray) (w : World) (b : Nat) (X : Nat → Prop) (ps : List Prt) (q : Bool) (hk : k < 6) (hq : allW k = q) (hs : ts.size ≤ 4096) (h : RWt w b X ps 0) (hr : Room ps (ts.size + 1)) (hg : lenB ts.data.toList = false) (n : Nat) (hn : parN ts.data.toList = n) (h0 : n ≠ 0) (hw : n = ts.size) :
    Calls Tryz.prog 49 #[.pointer (some ⟨b, 0, none⟩), .string ts, .int .i64 (k : Int)] w fun e w' => RBrEnd q (.ok (.mk 2 ts.data.toList false 0 false [])) w b X ps e w' := by
  have HP : Hid (∀ (u : ByteArray) W, u.size ≤ 100000 → Calls Tryz.prog 65 #[.string u] W fun e w' => e = .returned (.int .i64 (parN u.data.toList : Int)) ∧ w' = W) := hide (fun u W hu => rparam_any u W hu)
  have HB0 : Hid (∀ o, Below w.heap.size w (w.alloc o)) := hide (fun o => (Below.refl _ w).alloc (Nat.le_refl _) _)
  have hbw := h.lt
  have HH := hide h
  have HR := hide hr
  have HG := hide hg
  have HAL := hide (fun W => rallw_any k W hk)
  rw [hq] at HAL
  have hce : ∀ o, (w.alloc o).cell? ⟨b, 1, none⟩ = some (.int .i64 0) := fun o => ((h.below (unhide HB0 o)).err 0).1
  have hfe : ∀ o, (w.alloc o).frozen? ⟨b, 1, none⟩ = false := fun o => ((h.below (unhide HB0 o)).err 0).2.1
  have HER : Hid (∀ o, RAdds w b X ps 10 ((w.setCell ⟨b, 1, none⟩ (.int .i64 10)).alloc o)) := hide (fun o => (h.err 10).2.2.below ((Below.refl _ _).alloc (Nat.le_refl _) _))
  have HA : Hid (∀ w1 (t : ByteArray) (o : Int), t.size ≤ ts.size → Below w.heap.size w w1 → Calls Tryz.prog 28 #[.pointer (some ⟨b, 0, none⟩), .agg #[.int .i64 2, .string t, .bool q, .int .i64 o, .bool false, .slice none 0 0]] w1 fun e w' => e = .returned (.tuple #[]) ∧ RAdds w b X (addP ps (.mk 2 t.data.toList q o false [])) 0 w') := hide (fun w1 t o ht hb =>
    (rplain_add w1 b X ps 0 2 t q o false (h.below hb) ⟨by have := hr.1; omega, by have := hr.2; omega⟩).mono (fun e w' ⟨h1, h3⟩ => ⟨h1, h3.of_below hb⟩))
  clear h hr hg hq
  have hs1 : ts.size ≤ 100000 := by omega
  have hn0 : ((n : Int) == 0) = false := by rw [beq_eq_false_iff_ne]; omega
  have hni : (n : Int) ≤ (ts.size : Int) := by omega
  have hxs : (ts.extract 0 n).size ≤ ts.size := by rw [ByteArray.size_extract]; omega
  have HX : Hid ((ts.extract 0 n).data.toList = ts.data.toList) := hide (by rw [ext_to, List.take_of_length_le (by rw [data_len]; omega)])
  have hem : (ts.extract n ts.size).toList.isEmpty = true := empty_of (by rw [ByteArray.size_extract]; omega)
  clear hw h0
  go_enter Tryz.func49, Tryz.ntmps49
  go_wp2_with fail
  refine (unhide HAL _).mono ?_
  rintro e w1 ⟨rfl, rfl⟩
  go_upto_region 1 with fail
  go_cut [33] from 17 to 33 (fun c wx => c = .bool false ∧ wx = w1.alloc (.cells #[.int .i64 2, .string ⟨#[]⟩, .bool q, .int .i64 0, .bool false, .slice none 0 0] 37))
  case first =>
    by_cases h1 : 1 < ts.size
    · have h1i : (1 : Int) < (ts.size : Int) := by omega
      have h0 : 0 < ts.size := by omega
      cases e35 : ((ts[0].toNat : Int) == 35) with
      | true =>
        have hgl := hide ((unhide HG).symm.trans (lenB_is h1 e35))
        have hx := hide (ext_list ts 1)
        have hxs : (ts.extract 1 ts.size).size ≤ 100000 := by rw [ByteArray.size_extract]; omega
        have hwr : IntKind.i64.wrap ((ts.size : Int) - 1) = (ts.size : Int) - 1 := by rw [IntKind.wrap_i64]; omega
        go_wp2_with fail
        refine (unhide HP _ _ hxs).mono ?_
        rintro e w1 ⟨rfl, rfl⟩
        rw [unhide hx]
        go_wp2
        go_meet
        exact ⟨congrArg Value.bool (by rw [← List.drop_one]; exact (unhide hgl).symm), rfl⟩
      | false =>
        have hgl := (unhide HG).symm.trans (lenB_no h0 e35)
        first
        | exact Bool.noConfusion hgl
        | (go_wp2
           go_meet
           exact ⟨rfl, rfl⟩)
    · have h1i : ¬ (1 : Int) < (ts.size : Int) := by omega
      have hgl := (unhide HG).symm.trans (lenB_short h1)
      first
      | exact Bool.noConfusion hgl
      | (go_wp2
         go_meet
         exact ⟨rfl, rfl⟩)
  case rest =>
    obtain ⟨rfl, rfl⟩ := hcut
    go_wp2_with fail
    refine (unhide HP _ _ hs1).mono ?_
    rintro e w2 ⟨rfl, rfl⟩
    rw [hn]
    go_wp2_with fail
    refine (unhide HA _ _ _ hxs (unhide HB0 _)).mono ?_
    rintro e w2 ⟨rfl, hR⟩
    have HRR := hide hR
    clear hR
    go_wp2
    first | refine bodyPost_end (res0 rfl _ _) rfl ?_ | refine bodyPost_ret (res0 rfl _ _) rfl ?_
    rw [unhide HX] at HRR
    exact ⟨rfl, unhide HRR⟩

end Go.Proofs.YtnamfjbfcbamjaaGreatDoor

/- The document's reader: brace, with a sign. -/
namespace Go.Proofs.YtnamfjbfcbamjaaGreatDoor
open Go.RowKit


set_option maxRecDepth 20000 in
set_option maxHeartbeats 8000000 in
theorem rbr_e0 (k : Nat) (ts : ByteArray) (w : World) (b : Nat) (X : Nat → Prop) (ps : List Prt) (q : Bool) (hk : k < 6) (hq : allW k = q) (hs : ts.size ≤ 4096) (h : RWt w b X ps 0) (hr : Room ps (ts.size + 1)) (hg : lenB ts.data.toList = false) (n : Nat) (hn : parN ts.data.toList = n) (h0 : n ≠ 0) (hnl : n < ts.size) (cl : Bool) (hcl : colonL (ts.data.toList.drop n) = cl) (l2 : List UInt8) (hl2 : behindL (ts.data.toList.drop n) = l2) (r2 : ByteArray) (hr2 : r2 = BA l2) (hr2s : r2.size ≤ 4096) (hz : l2 = []) :
    Calls Tryz.prog 49 #[.pointer (some ⟨b, 0, none⟩), .string ts, .int .i64 (k : Int)] w fun e w' => RBrEnd q (.err 10) w b X ps e w' := by
  have HP : Hid (∀ (u : ByteArray) W, u.size ≤ 100000 → Calls Tryz.prog 65 #[.string u] W fun e w' => e = .returned (.int .i64 (parN u.data.toList : Int)) ∧ w' = W) := hide (fun u W hu => rparam_any u W hu)
  have HB0 : Hid (∀ o, Below w.heap.size w (w.alloc o)) := hide (fun o => (Below.refl _ w).alloc (Nat.le_refl _) _)
  have hbw := h.lt
  have HH := hide h
  have HR := hide hr
  have HG := hide hg
  have HAL := hide (fun W => rallw_any k W hk)
  rw [hq] at HAL
  have hce : ∀ o, (w.alloc o).cell? ⟨b, 1, none⟩ = some (.int .i64 0) := fun o => ((h.below (unhide HB0 o)).err 0).1
  have hfe : ∀ o, (w.alloc o).frozen? ⟨b, 1, none⟩ = false := fun o => ((h.below (unhide HB0 o)).err 0).2.1
  have HER : Hid (∀ o, RAdds w b X ps 10 ((w.setCell ⟨b, 1, none⟩ (.int .i64 10)).alloc o)) := hide (fun o => (h.err 10).2.2.below ((Below.refl _ _).alloc (Nat.le_refl _) _))
  have HA : Hid (∀ w1 (t : ByteArray) (o : Int), t.size ≤ ts.size → Below w.heap.size w w1 → Calls Tryz.prog 28 #[.pointer (some ⟨b, 0, none⟩), .agg #[.int .i64 2, .string t, .bool q, .int .i64 o, .bool false, .slice none 0 0]] w1 fun e w' => e = .returned (.tuple #[]) ∧ RAdds w b X (addP ps (.mk 2 t.data.toList q o false [])) 0 w') := hide (fun w1 t o ht hb =>
    (rplain_add w1 b X ps 0 2 t q o false (h.below hb) ⟨by have := hr.1; omega, by have := hr.2; omega⟩).mono (fun e w' ⟨h1, h3⟩ => ⟨h1, h3.of_below hb⟩))
  clear h hr hg hq
  have hs1 : ts.size ≤ 100000 := by omega
  have hn0 : ((n : Int) == 0) = false := by rw [beq_eq_false_iff_ne]; omega
  have hni : (n : Int) ≤ (ts.size : Int) := by omega
  obtain ⟨rs, hrs⟩ : ∃ x, x = ts.extract n ts.size := ⟨_, rfl⟩
  obtain ⟨tx, htx⟩ : ∃ x, x = ts.extract 0 n := ⟨_, rfl⟩
  have hrl : rs.data.toList = ts.data.toList.drop n := by rw [hrs, ext_list]
  have HTX : Hid (tx.data.toList = ts.data.toList.take n) := hide (by rw [htx, ext_to])
  have htxs : tx.size ≤ ts.size := by rw [htx, ByteArray.size_extract]; omega
  rw [← hrl] at hcl hl2
  have hrsz : rs.size = ts.size - n := by rw [← data_len, hrl, List.length_drop, data_len]
  have hr0 : 0 < rs.size := by omega
  have hem : rs.toList.isEmpty = false := nonempty_of hr0
  have hcol : colonL rs.data.toList = ((rs[0].toNat : Int) == 58) := head_i hr0 58 (by omega)
  have HR2 : Hid (r2 = BA (behindL rs.data.toList)) := hide (by rw [hl2, hr2])
  have HCOL := hide (hcl.symm.trans hcol)
  have hr4 : rs.size ≤ 4096 := by omega
  have HRS := hide hrs
  have HTS := hide htx
  have HL2 := hide hr2
  clear hrl hcol hrs htx hrsz hcl hl2 hr2 h0
  have hr2e : r2.toList.isEmpty = true := by rw [unhide HL2, hz, BA_toList]; rfl
  have hr2z : ¬ (1 : Int) < (r2.size : Int) := by rw [unhide HL2, hz]; decide
  clear hz
  go_enter Tryz.func49, Tryz.ntmps49
  go_wp2_with fail
  refine (unhide HAL _).mono ?_
  rintro e w1 ⟨rfl, rfl⟩
  go_upto_region 1 with fail
  go_cut [33] from 17 to 33 (fun c wx => c = .bool false ∧ wx = w1.alloc (.cells #[.int .i64 2, .string ⟨#[]⟩, .bool q, .int .i64 0, .bool false, .slice none 0 0] 37))
  case first =>
    by_cases h1 : 1 < ts.size
    · have h1i : (1 : Int) < (ts.size : Int) := by omega
      have h0 : 0 < ts.size := by omega
      cases e35 : ((ts[0].toNat : Int) == 35) with
      | true =>
        have hgl := hide ((unhide HG).symm.trans (lenB_is h1 e35))
        have hx := hide (ext_list ts 1)
        have hxs : (ts.extract 1 ts.size).size ≤ 100000 := by rw [ByteArray.size_extract]; omega
        have hwr : IntKind.i64.wrap ((ts.size : Int) - 1) = (ts.size : Int) - 1 := by rw [IntKind.wrap_i64]; omega
        go_wp2_with fail
        refine (unhide HP _ _ hxs).mono ?_
        rintro e w1 ⟨rfl, rfl⟩
        rw [unhide hx]
        go_wp2
        go_meet
        exact ⟨congrArg Value.bool (by rw [← List.drop_one]; exact (unhide hgl).symm), rfl⟩
      | false =>
        have hgl := (unhide HG).symm.trans (lenB_no h0 e35)
        first
        | exact Bool.noConfusion hgl
        | (go_wp2
           go_meet
           exact ⟨rfl, rfl⟩)
    · have h1i : ¬ (1 : Int) < (ts.size : Int) := by omega
      have hgl := (unhide HG).symm.trans (lenB_short h1)
      first
      | exact Bool.noConfusion hgl
      | (go_wp2
         go_meet
         exact ⟨rfl, rfl⟩)
  case rest =>
    obtain ⟨rfl, rfl⟩ := hcut
    go_wp2_with fail
    refine (unhide HP _ _ hs1).mono ?_
    rintro e w2 ⟨rfl, rfl⟩
    rw [hn]
    go_upto_region 10 with fail
    rw [← unhide HRS, ← unhide HTS]
    go_upto_if 62 with fail
    go_cut [1] from 60 to 65 (fun s wx => s = .string r2 ∧ wx = w1.alloc (.cells #[.int .i64 2, .string tx, .bool q, .int .i64 0, .bool cl, .slice none 0 0] 37))
    case first =>
      have hri : (1 : Int) ≤ (rs.size : Int) := by omega
      cases e58 : ((rs[0].toNat : Int) == 58) with
      | true =>
        have hc1 : cl = true := (unhide HCOL).trans e58
        have hx : rs.extract 1 rs.size = r2 := by
          have h1 : colonL rs.data.toList = true := (head_i hr0 58 (by omega)).trans e58
          rw [unhide HR2, extract_end]
          unfold behindL
          rw [if_pos h1]
        have HX := hide hx
        have HC := hide hc1
        clear hx hc1
        go_wp2
        go_meet
        exact ⟨congrArg Value.string (unhide HX), by first | rfl | exact Bool.noConfusion (unhide HC) | rw [unhide HC]⟩
      | false =>
        have hc1 : cl = false := (unhide HCOL).trans e58
        have hx : rs = r2 := by
          have h1 : ¬ colonL rs.data.toList = true := by rw [show colonL rs.data.toList = _ from head_i hr0 58 (by omega)]; rw [show ((58 : Nat) : Int) = 58 from rfl, e58]; simp
          rw [unhide HR2]
          unfold behindL
          rw [if_neg h1, BA_of]
        have HX := hide hx
        have HC := hide hc1
        clear hx hc1
        go_wp2
        go_meet
        exact ⟨congrArg Value.string (unhide HX), by first | rfl | exact Bool.noConfusion (unhide HC) | rw [unhide HC]⟩
    case rest =>
      obtain ⟨rfl, rfl⟩ := hcut
      go_wp2
      first | refine bodyPost_end (res0 rfl _ _) rfl ?_ | refine bodyPost_ret (res0 rfl _ _) rfl ?_
      exact ⟨rfl, by decide, ps, unhide HER _⟩

def bdOf (t : List UInt8) (op : Int) (cl : Bool) : Rd → Bd
  | .err e => .err e
  | .ok ps => .ok (.mk 2 t false op cl ps)
theorem rbr_add {w w0 w2 : World} {b : Nat} {X : Nat → Prop} {ps qs : List Prt} {v : Value} (tx : ByteArray) (q cl : Bool) (op x : Int) (h : RWt w b X ps 0) (hb0 : Below w.heap.size w w0) (hz : w.heap.size < w0.heap.size) (hb2 : Below w0.heap.size w0 w2) (hv : WAt w2 (fun k => w0.heap.size ≤ k ∧ k < w2.heap.size) v qs) (hl : ps.length ≤ 100000) (ht : tlen ps + tx.size ≤ 1000000) :
    (w2.setCell ⟨w.heap.size, 5, none⟩ v).cell? ⟨b, 1, none⟩ = some (.int .i64 0) ∧ (w2.setCell ⟨w.heap.size, 5, none⟩ v).frozen? ⟨b, 1, none⟩ = false ∧
    Calls Tryz.prog 28 #[.pointer (some ⟨b, 0, none⟩), .agg #[.int .i64 2, .string tx, .bool q, .int .i64 op, .bool cl, v]] ((w2.setCell ⟨w.heap.size, 5, none⟩ v).setCell ⟨b, 1, none⟩ (.int .i64 x)) fun e w' => e = .returned (.tuple #[]) ∧ RAdds w b X (addP ps (.mk 2 tx.data.toList q op cl qs)) x w' := by
  have hbw := h.lt
  have hhi := h.hi
  have hlo := h.lo
  have g5 := setb_grown w2 w.heap.size 5 v
  have hW2 : Below w.heap.size w (w2.setCell ⟨w.heap.size, 5, none⟩ v) := (hb0.trans (hb2.mono hb0.size)).trans (g5.below (Nat.le_trans hb0.size hb2.size) (fun k e => by omega))
  have h2 := h.below hW2
  obtain ⟨c1, f1, a1⟩ := h2.err x
  refine ⟨c1, f1, ?_⟩
  have g6 := setb_grown (w2.setCell ⟨w.heap.size, 5, none⟩ v) b 1 (.int .i64 x)
  obtain ⟨X3, h3, g3, hx3⟩ := a1
  have s2 := hb2.size
  have s5 := g5.size
  have s3 := g3.size
  have hv3 : WAt ((w2.setCell ⟨w.heap.size, 5, none⟩ v).setCell ⟨b, 1, none⟩ (.int .i64 x)) (fun k => w0.heap.size ≤ k ∧ k < w2.heap.size) v qs := hv.kept (fun k hk => by
    rw [g6.block k (by omega) (by omega)]
    exact g5.block k (by omega) (by omega)) (fun k hk => hk)
  refine (radd_any _ b X3 _ ps x _ (.mk 2 tx.data.toList q op cl qs) h3 ⟨v, rfl, hv3⟩ (fun k hk => ⟨by omega, by omega, fun e => ?_⟩) hl (by show tlen ps + tx.data.toList.length ≤ _; rw [data_len]; exact ht)).mono ?_
  · rcases hx3 k e with e | e
    · have := hhi k e; omega
    · have := hk.2; omega
  · rintro e w' ⟨rfl, a2⟩
    exact ⟨rfl, RAdds.of_below hW2 (RAdds.trans g3 hx3 a2)⟩
def twB : List UInt8 → Bool
  | c :: d :: _ => (d.toNat : Int) == (c.toNat : Int)
  | _ => false

set_option maxRecDepth 20000 in
set_option maxHeartbeats 8000000 in
theorem rbr_e1 (k : Nat) (ts : ByteArray) (w : World) (b : Nat) (X : Nat → Prop) (ps : List Prt) (q : Bool) (hk : k < 6) (hq : allW k = q) (hs : ts.size ≤ 4096) (h : RWt w b X ps 0) (hr : Room ps (ts.size + 1)) (hg : lenB ts.data.toList = false) (n : Nat) (hn : parN ts.data.toList = n) (h0 : n ≠ 0) (hnl : n < ts.size) (cl : Bool) (hcl : colonL (ts.data.toList.drop n) = cl) (l2 : List UInt8) (hl2 : behindL (ts.data.toList.drop n) = l2) (r2 : ByteArray) (hr2 : r2 = BA l2) (hr2s : r2.size ≤ 4096) (c : UInt8) (t : List UInt8) (hz : l2 = c :: t) (tw : Bool) (htw : twB l2 = tw) (e45 : ((c.toNat : Int) == 45) = false) (e61 : ((c.toNat : Int) == 61) = false) (e63 : ((c.toNat : Int) == 63) = false) (e43 : ((c.toNat : Int) == 43) = false) (e35 : ((c.toNat : Int) == 35) = false) (e37 : ((c.toNat : Int) == 37) = false) :
    Calls Tryz.prog 49 #[.pointer (some ⟨b, 0, none⟩), .string ts, .int .i64 (k : Int)] w fun e w' => RBrEnd q (.err 10) w b X ps e w' := by
  have HP : Hid (∀ (u : ByteArray) W, u.size ≤ 100000 → Calls Tryz.prog 65 #[.string u] W fun e w' => e = .returned (.int .i64 (parN u.data.toList : Int)) ∧ w' = W) := hide (fun u W hu => rparam_any u W hu)
  have HB0 : Hid (∀ o, Below w.heap.size w (w.alloc o)) := hide (fun o => (Below.refl _ w).alloc (Nat.le_refl _) _)
  have hbw := h.lt
  have HH := hide h
  have HR := hide hr
  have HG := hide hg
  have HAL := hide (fun W => rallw_any k W hk)
  rw [hq] at HAL
  have hce : ∀ o, (w.alloc o).cell? ⟨b, 1, none⟩ = some (.int .i64 0) := fun o => ((h.below (unhide HB0 o)).err 0).1
  have hfe : ∀ o, (w.alloc o).frozen? ⟨b, 1, none⟩ = false := fun o => ((h.below (unhide HB0 o)).err 0).2.1
  have HER : Hid (∀ o, RAdds w b X ps 10 ((w.setCell ⟨b, 1, none⟩ (.int .i64 10)).alloc o)) := hide (fun o => (h.err 10).2.2.below ((Below.refl _ _).alloc (Nat.le_refl _) _))
  have HA : Hid (∀ w1 (t : ByteArray) (o : Int), t.size ≤ ts.size → Below w.heap.size w w1 → Calls Tryz.prog 28 #[.pointer (some ⟨b, 0, none⟩), .agg #[.int .i64 2, .string t, .bool q, .int .i64 o, .bool false, .slice none 0 0]] w1 fun e w' => e = .returned (.tuple #[]) ∧ RAdds w b X (addP ps (.mk 2 t.data.toList q o false [])) 0 w') := hide (fun w1 t o ht hb =>
    (rplain_add w1 b X ps 0 2 t q o false (h.below hb) ⟨by have := hr.1; omega, by have := hr.2; omega⟩).mono (fun e w' ⟨h1, h3⟩ => ⟨h1, h3.of_below hb⟩))
  clear h hr hg hq
  have hs1 : ts.size ≤ 100000 := by omega
  have hn0 : ((n : Int) == 0) = false := by rw [beq_eq_false_iff_ne]; omega
  have hni : (n : Int) ≤ (ts.size : Int) := by omega
  obtain ⟨rs, hrs⟩ : ∃ x, x = ts.extract n ts.size := ⟨_, rfl⟩
  obtain ⟨tx, htx⟩ : ∃ x, x = ts.extract 0 n := ⟨_, rfl⟩
  have hrl : rs.data.toList = ts.data.toList.drop n := by rw [hrs, ext_list]
  have HTX : Hid (tx.data.toList = ts.data.toList.take n) := hide (by rw [htx, ext_to])
  have htxs : tx.size ≤ ts.size := by rw [htx, ByteArray.size_extract]; omega
  rw [← hrl] at hcl hl2
  have hrsz : rs.size = ts.size - n := by rw [← data_len, hrl, List.length_drop, data_len]
  have hr0 : 0 < rs.size := by omega
  have hem : rs.toList.isEmpty = false := nonempty_of hr0
  have hcol : colonL rs.data.toList = ((rs[0].toNat : Int) == 58) := head_i hr0 58 (by omega)
  have HR2 : Hid (r2 = BA (behindL rs.data.toList)) := hide (by rw [hl2, hr2])
  have HCOL := hide (hcl.symm.trans hcol)
  have hr4 : rs.size ≤ 4096 := by omega
  have HRS := hide hrs
  have HTS := hide htx
  have HL2 := hide hr2
  clear hrl hcol hrs htx hrsz hcl hl2 hr2 h0
  have hz0 : 0 < r2.size := by rw [unhide HL2, hz]; simp
  have hne : r2.toList.isEmpty = false := nonempty_of hz0
  have hr2l : r2.data.toList = c :: t := by rw [unhide HL2, hz, BA_list]
  have hc0 : r2[0]'hz0 = c := by
    have := head_get hz0
    rw [hr2l] at this
    injection this with h1 _
    exact h1.symm
  have HTW : Hid (tw = twB r2.data.toList) := hide (by rw [hr2l, ← hz, htw])
  have HC2 := hide hr2l
  clear hz htw hr2l
  go_enter Tryz.func49, Tryz.ntmps49
  go_wp2_with fail
  refine (unhide HAL _).mono ?_
  rintro e w1 ⟨rfl, rfl⟩
  go_upto_region 1 with fail
  go_cut [33] from 17 to 33 (fun c wx => c = .bool false ∧ wx = w1.alloc (.cells #[.int .i64 2, .string ⟨#[]⟩, .bool q, .int .i64 0, .bool false, .slice none 0 0] 37))
  case first =>
    by_cases h1 : 1 < ts.size
    · have h1i : (1 : Int) < (ts.size : Int) := by omega
      have h0 : 0 < ts.size := by omega
      cases e35 : ((ts[0].toNat : Int) == 35) with
      | true =>
        have hgl := hide ((unhide HG).symm.trans (lenB_is h1 e35))
        have hx := hide (ext_list ts 1)
        have hxs : (ts.extract 1 ts.size).size ≤ 100000 := by rw [ByteArray.size_extract]; omega
        have hwr : IntKind.i64.wrap ((ts.size : Int) - 1) = (ts.size : Int) - 1 := by rw [IntKind.wrap_i64]; omega
        go_wp2_with fail
        refine (unhide HP _ _ hxs).mono ?_
        rintro e w1 ⟨rfl, rfl⟩
        rw [unhide hx]
        go_wp2
        go_meet
        exact ⟨congrArg Value.bool (by rw [← List.drop_one]; exact (unhide hgl).symm), rfl⟩
      | false =>
        have hgl := (unhide HG).symm.trans (lenB_no h0 e35)
        first
        | exact Bool.noConfusion hgl
        | (go_wp2
           go_meet
           exact ⟨rfl, rfl⟩)
    · have h1i : ¬ (1 : Int) < (ts.size : Int) := by omega
      have hgl := (unhide HG).symm.trans (lenB_short h1)
      first
      | exact Bool.noConfusion hgl
      | (go_wp2
         go_meet
         exact ⟨rfl, rfl⟩)
  case rest =>
    obtain ⟨rfl, rfl⟩ := hcut
    go_wp2_with fail
    refine (unhide HP _ _ hs1).mono ?_
    rintro e w2 ⟨rfl, rfl⟩
    rw [hn]
    go_upto_region 10 with fail
    rw [← unhide HRS, ← unhide HTS]
    go_upto_if 62 with fail
    go_cut [1] from 60 to 65 (fun s wx => s = .string r2 ∧ wx = w1.alloc (.cells #[.int .i64 2, .string tx, .bool q, .int .i64 0, .bool cl, .slice none 0 0] 37))
    case first =>
      have hri : (1 : Int) ≤ (rs.size : Int) := by omega
      cases e58 : ((rs[0].toNat : Int) == 58) with
      | true =>
        have hc1 : cl = true := (unhide HCOL).trans e58
        have hx : rs.extract 1 rs.size = r2 := by
          have h1 : colonL rs.data.toList = true := (head_i hr0 58 (by omega)).trans e58
          rw [unhide HR2, extract_end]
          unfold behindL
          rw [if_pos h1]
        have HX := hide hx
        have HC := hide hc1
        clear hx hc1
        go_wp2
        go_meet
        exact ⟨congrArg Value.string (unhide HX), by first | rfl | exact Bool.noConfusion (unhide HC) | rw [unhide HC]⟩
      | false =>
        have hc1 : cl = false := (unhide HCOL).trans e58
        have hx : rs = r2 := by
          have h1 : ¬ colonL rs.data.toList = true := by rw [show colonL rs.data.toList = _ from head_i hr0 58 (by omega)]; rw [show ((58 : Nat) : Int) = 58 from rfl, e58]; simp
          rw [unhide HR2]
          unfold behindL
          rw [if_neg h1, BA_of]
        have HX := hide hx
        have HC := hide hc1
        clear hx hc1
        go_wp2
        go_meet
        exact ⟨congrArg Value.string (unhide HX), by first | rfl | exact Bool.noConfusion (unhide HC) | rw [unhide HC]⟩
    case rest =>
      obtain ⟨rfl, rfl⟩ := hcut
      go_upto_region 18 with fail
      go_cut [9] from 70 to 78 (fun x wx => x = .bool tw ∧ wx = w1.alloc (.cells #[.int .i64 2, .string tx, .bool q, .int .i64 0, .bool cl, .slice none 0 0] 37))
      case first =>
        by_cases h1 : 1 < r2.size
        · have h1i : (1 : Int) < (r2.size : Int) := by omega
          have htwd : Hid (tw = (((r2[1]'h1).toNat : Int) == (c.toNat : Int))) := hide (by
            have e1 : r2.data.toList[1]'(by rw [data_len]; exact h1) = r2[1]'h1 := rfl
            rw [unhide HTW]
            revert e1
            have hl := unhide HC2
            have hlen : r2.data.toList.length = r2.size := data_len r2
            cases t with
            | nil => rw [hl] at hlen; simp at hlen; omega
            | cons d t =>
              intro e1
              have e2 : r2.data.toList[1]? = some (r2[1]'h1) := by rw [← e1]; exact List.getElem?_eq_getElem _
              rw [hl] at e2 ⊢
              simp at e2
              rw [← e2]
              rfl)
          go_wp2
          go_meet
          exact ⟨by first | rfl | exact Bool.noConfusion (unhide htwd) | rw [unhide htwd], rfl⟩
        · have h1i : ¬ (1 : Int) < (r2.size : Int) := by omega
          have htwd : Hid (tw = false) := hide ((unhide HTW).trans (by
            have hl := unhide HC2
            have hlen : r2.data.toList.length = r2.size := data_len r2
            cases t with
            | nil => rw [hl]; rfl
            | cons d t => rw [hl] at hlen; simp at hlen; omega))
          go_wp2
          go_meet
          exact ⟨by first | rfl | exact Bool.noConfusion (unhide htwd) | rw [unhide htwd], rfl⟩
      case rest =>
        obtain ⟨rfl, rfl⟩ := hcut
        go_wp2
        first | refine bodyPost_end (res0 rfl _ _) rfl ?_ | refine bodyPost_ret (res0 rfl _ _) rfl ?_
        exact ⟨rfl, by decide, ps, unhide HER _⟩

end Go.Proofs.YtnamfjbfcbamjaaGreatDoor

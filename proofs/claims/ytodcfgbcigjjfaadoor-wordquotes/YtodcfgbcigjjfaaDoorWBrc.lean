/-
  Package word's brace and long.
-/
import Derived.Test.YtodcfgbcigjjfaaDoorWRdW
namespace Go.Proofs.YtodcfgbcigjjfaaDoor
open Go.RowKit

def BrEnd (r : Bd) (w : World) (e : Ending) (w' : World) : Prop :=
  match r with
  | .ok p => ∃ v, e = .returned (.tuple #[partV p v, .int .i64 0]) ∧ Below w.heap.size w w' ∧ WAt w' (fun k => w.heap.size ≤ k ∧ k < w'.heap.size) v p.sub
  | .err x => e = .returned (.tuple #[.agg #[.int .i64 0, .string ⟨#[]⟩, .bool false, .int .i64 0, .bool false, .slice none 0 0], .int .i64 x]) ∧ x ≠ 0 ∧ Below w.heap.size w w'
theorem within_lt (k : Nat) (op : Int) : withinW k op < 6 := by
  unfold withinW
  split
  · decide
  · split <;> decide
theorem has35 (l : List UInt8) : Lib.hasPrefix l [35] = (l.head? == some 35) := by
  cases l with
  | nil => rfl
  | cons c r => rw [hasP_one]; simp [Bool.beq_eq_decide_eq]
theorem trim35 {l : List UInt8} (h : (l.head? == some 35) = true) : Lib.trimPrefix l [35] = l.drop 1 := by
  unfold Lib.trimPrefix
  rw [has35, h]
  rfl
theorem below_T6 {w w1 : World} (hb : Below w.heap.size w w1) (x0 x1 x2 x3 x4 x5 : Value) : Below w.heap.size w (T6 w1 w.heap.size 0 x0 x1 x2 x3 x4 x5) :=
  hb.trans ((T6_grown w1 w.heap.size 0 _ _ _ _ _ _).below hb.size (fun k e => by omega))

set_option maxRecDepth 20000 in
set_option maxHeartbeats 4000000 in
theorem brace_len (k : Nat) (l : List UInt8) (w : World) (hl : l.length ≤ 4096) (h1 : (l.head? == some 35) = true) (h2 : l.drop 1 ≠ []) (h3 : parN (l.drop 1) = (l.drop 1).length) :
    Calls Tryd.prog 73 #[.int .i64 (k : Int), .string (BA l)] w fun e w' => BrEnd (.ok (.mk 2 (l.drop 1) false 1 false [])) w e w' := by
  have HC : Hid (∀ W, Calls Tryd.prog 87 #[.string (BA l), .string ⟨#[35]⟩] W fun e w' => e = .returned (.tuple #[.string (BA (l.drop 1)), .bool true]) ∧ w' = W) := hide (fun W => by
    have := Tryd.strings_CutPrefix (BA l) ⟨#[35]⟩ W
    rw [show Lib.hasPrefix (BA l).data.toList (⟨#[35]⟩ : ByteArray).data.toList = true from (has35 l).trans h1, show Lib.trimPrefix (BA l).data.toList (⟨#[35]⟩ : ByteArray).data.toList = l.drop 1 from trim35 h1] at this
    exact this)
  obtain ⟨u, hu⟩ : ∃ u, u = l.drop 1 := ⟨_, rfl⟩
  have hul : u.length ≤ 4096 := by rw [hu]; simp; omega
  rw [← hu] at HC h2 h3 ⊢
  have HP := hide (fun W => parameter_any (BA u) W (by simp; omega))
  simp only [BA_list, h3] at HP
  have t2 : (BA u).toList.isEmpty = false := by
    rw [BA_toList]
    cases u with
    | nil => exact absurd rfl h2
    | cons _ _ => rfl
  clear hu h1 h2 h3
  go_enter Tryd.func73, Tryd.ntmps73
  go_wp2_with fail
  refine (unhide HC _).mono ?_
  rintro e w1 ⟨rfl, hw1⟩
  have hw2 := hw1.symm
  subst hw2
  clear hw1
  go_wp2_with fail
  refine (unhide HP _).mono ?_
  rintro e w1 ⟨rfl, hw1⟩
  have hw2 := hw1.symm
  subst hw2
  clear hw1
  go_wp2
  refine bodyPost_ret (v := .tuple #[partV (.mk 2 u false 1 false []) (.slice none 0 0), .int .i64 0]) (results_part2 rfl _ _ w.heap.size _ _ _ _ _ _ _ rfl rfl (Blk.new w _ _)) rfl ?_
  exact ⟨_, rfl, (Below.refl _ _).alloc (Nat.le_refl _) _, wat_nil _ _ _ _⟩

set_option maxRecDepth 20000 in
set_option maxHeartbeats 4000000 in
theorem brace_no (k : Nat) (l : List UInt8) (w : World) (hl : l.length ≤ 4096) (hnot : ¬ (l.head? = some 35 ∧ l.drop 1 ≠ [] ∧ parN (l.drop 1) = (l.drop 1).length)) (hp : parN l = 0) :
    Calls Tryd.prog 73 #[.int .i64 (k : Int), .string (BA l)] w fun e w' => BrEnd (.err 10) w e w' := by
  have HPL := hide (fun W => parameter_any (BA l) W (by simp; omega))
  simp only [BA_list] at HPL
  rw [hp] at HPL
  clear hp
  have hways : ((l.head? == some 35) = false) ∨ ((l.head? == some 35) = true ∧ l.drop 1 = []) ∨ ((l.head? == some 35) = true ∧ l.drop 1 ≠ [] ∧ parN (l.drop 1) ≠ (l.drop 1).length) := by
    by_cases h1 : l.head? = some 35
    · by_cases h2 : l.drop 1 = []
      · exact .inr (.inl ⟨by simpa using h1, h2⟩)
      · exact .inr (.inr ⟨by simpa using h1, h2, fun h3 => hnot ⟨h1, h2, h3⟩⟩)
    · exact .inl (by simpa using h1)
  have HCT : Hid (∀ W, Calls Tryd.prog 87 #[.string (BA l), .string ⟨#[35]⟩] W fun e w' => e = .returned (.tuple #[.string (BA (if (l.head? == some 35) then l.drop 1 else l)), .bool (l.head? == some 35)]) ∧ w' = W) := hide (fun W => by
    have := Tryd.strings_CutPrefix (BA l) ⟨#[35]⟩ W
    rw [show Lib.hasPrefix (BA l).data.toList (⟨#[35]⟩ : ByteArray).data.toList = (l.head? == some 35) from has35 l, show Lib.trimPrefix (BA l).data.toList (⟨#[35]⟩ : ByteArray).data.toList = (if (l.head? == some 35) then l.drop 1 else l) from by unfold Lib.trimPrefix; rw [has35]; rfl] at this
    exact this)
  clear hnot
  rcases hways with h1 | ⟨h1, h2⟩ | ⟨h1, h2, h3⟩
  · rw [h1] at HCT
    simp only [Bool.false_eq_true, if_false] at HCT
    clear h1
    go_enter Tryd.func73, Tryd.ntmps73
    go_wp2_with fail
    refine (unhide HCT _).mono ?_
    rintro e w1 ⟨rfl, hw1⟩
    have hw2 := hw1.symm
    subst hw2
    clear hw1
    go_wp2_with fail
    refine (unhide HPL _).mono ?_
    rintro e w1 ⟨rfl, hw1⟩
    have hw2 := hw1.symm
    subst hw2
    clear hw1
    go_wp2
    refine bodyPost_ret (v := .tuple #[.agg #[.int .i64 0, .string ⟨#[]⟩, .bool false, .int .i64 0, .bool false, .slice none 0 0], .int .i64 10]) (results_part2 rfl _ _ w.heap.size _ _ _ _ _ _ _ rfl rfl (Blk.new w _ _)) rfl ?_
    exact ⟨rfl, by decide, (Below.refl _ _).alloc (Nat.le_refl _) _⟩
  · rw [h1, h2] at HCT
    simp only [if_true] at HCT
    have t2 : (BA []).toList.isEmpty = true := by rw [BA_toList]; rfl
    clear h1 h2
    go_enter Tryd.func73, Tryd.ntmps73
    go_wp2_with fail
    refine (unhide HCT _).mono ?_
    rintro e w1 ⟨rfl, hw1⟩
    have hw2 := hw1.symm
    subst hw2
    clear hw1
    go_wp2_with fail
    refine (unhide HPL _).mono ?_
    rintro e w1 ⟨rfl, hw1⟩
    have hw2 := hw1.symm
    subst hw2
    clear hw1
    go_wp2
    refine bodyPost_ret (v := .tuple #[.agg #[.int .i64 0, .string ⟨#[]⟩, .bool false, .int .i64 0, .bool false, .slice none 0 0], .int .i64 10]) (results_part2 rfl _ _ w.heap.size _ _ _ _ _ _ _ rfl rfl (Blk.new w _ _)) rfl ?_
    exact ⟨rfl, by decide, (Below.refl _ _).alloc (Nat.le_refl _) _⟩
  · rw [h1] at HCT
    simp only [if_true] at HCT
    obtain ⟨u, hu⟩ : ∃ u, u = l.drop 1 := ⟨_, rfl⟩
    have hul : u.length ≤ 4096 := by rw [hu]; simp; omega
    rw [← hu] at HCT h2 h3
    have HPU := hide (fun W => parameter_any (BA u) W (by simp; omega))
    simp only [BA_list] at HPU
    have t2 : (BA u).toList.isEmpty = false := by
      rw [BA_toList]
      cases u with
      | nil => exact absurd rfl h2
      | cons _ _ => rfl
    obtain ⟨pu, hpu⟩ : ∃ x, x = parN u := ⟨_, rfl⟩
    rw [← hpu] at HPU h3
    have h3' : ((pu : Int) == (u.length : Int)) = false := by rw [beq_eq_false_iff_ne]; omega
    clear hu h1 h2 h3 hpu
    go_enter Tryd.func73, Tryd.ntmps73
    go_wp2_with fail
    refine (unhide HCT _).mono ?_
    rintro e w1 ⟨rfl, hw1⟩
    have hw2 := hw1.symm
    subst hw2
    clear hw1
    go_wp2_with fail
    refine (unhide HPU _).mono ?_
    rintro e w1 ⟨rfl, hw1⟩
    have hw2 := hw1.symm
    subst hw2
    clear hw1
    go_wp2_with fail
    refine (unhide HPL _).mono ?_
    rintro e w1 ⟨rfl, hw1⟩
    have hw2 := hw1.symm
    subst hw2
    clear hw1
    go_wp2
    refine bodyPost_ret (v := .tuple #[.agg #[.int .i64 0, .string ⟨#[]⟩, .bool false, .int .i64 0, .bool false, .slice none 0 0], .int .i64 10]) (results_part2 rfl _ _ w.heap.size _ _ _ _ _ _ _ rfl rfl (Blk.new w _ _)) rfl ?_
    exact ⟨rfl, by decide, (Below.refl _ _).alloc (Nat.le_refl _) _⟩
set_option maxRecDepth 20000 in
set_option maxHeartbeats 4000000 in
theorem brace_whole (k : Nat) (l : List UInt8) (w : World) (hl : l.length ≤ 4096) (hnot : ¬ (l.head? = some 35 ∧ l.drop 1 ≠ [] ∧ parN (l.drop 1) = (l.drop 1).length)) (hp : parN l ≠ 0) (hw : parN l = l.length) :
    Calls Tryd.prog 73 #[.int .i64 (k : Int), .string (BA l)] w fun e w' => BrEnd (.ok (.mk 2 l false 0 false [])) w e w' := by
  have HPL := hide (fun W => parameter_any (BA l) W (by simp; omega))
  simp only [BA_list] at HPL
  rw [hw] at HPL hp
  have hp0 : ((l.length : Int) == 0) = false := by rw [beq_eq_false_iff_ne]; omega
  have HX : Hid ((BA l).extract 0 l.length = BA l) := hide (by have := extract_take (BA l) 0 l.length; simpa using this)
  clear hp hw
  have hways : ((l.head? == some 35) = false) ∨ ((l.head? == some 35) = true ∧ l.drop 1 = []) ∨ ((l.head? == some 35) = true ∧ l.drop 1 ≠ [] ∧ parN (l.drop 1) ≠ (l.drop 1).length) := by
    by_cases h1 : l.head? = some 35
    · by_cases h2 : l.drop 1 = []
      · exact .inr (.inl ⟨by simpa using h1, h2⟩)
      · exact .inr (.inr ⟨by simpa using h1, h2, fun h3 => hnot ⟨h1, h2, h3⟩⟩)
    · exact .inl (by simpa using h1)
  have HCT : Hid (∀ W, Calls Tryd.prog 87 #[.string (BA l), .string ⟨#[35]⟩] W fun e w' => e = .returned (.tuple #[.string (BA (if (l.head? == some 35) then l.drop 1 else l)), .bool (l.head? == some 35)]) ∧ w' = W) := hide (fun W => by
    have := Tryd.strings_CutPrefix (BA l) ⟨#[35]⟩ W
    rw [show Lib.hasPrefix (BA l).data.toList (⟨#[35]⟩ : ByteArray).data.toList = (l.head? == some 35) from has35 l, show Lib.trimPrefix (BA l).data.toList (⟨#[35]⟩ : ByteArray).data.toList = (if (l.head? == some 35) then l.drop 1 else l) from by unfold Lib.trimPrefix; rw [has35]; rfl] at this
    exact this)
  clear hnot
  rcases hways with h1 | ⟨h1, h2⟩ | ⟨h1, h2, h3⟩
  · rw [h1] at HCT
    simp only [Bool.false_eq_true, if_false] at HCT
    clear h1
    go_enter Tryd.func73, Tryd.ntmps73
    go_wp2_with fail
    refine (unhide HCT _).mono ?_
    rintro e w1 ⟨rfl, hw1⟩
    have hw2 := hw1.symm
    subst hw2
    clear hw1
    go_wp2_with fail
    refine (unhide HPL _).mono ?_
    rintro e w1 ⟨rfl, hw1⟩
    have hw2 := hw1.symm
    subst hw2
    clear hw1
    go_wp2
    refine bodyPost_ret (v := .tuple #[.agg #[.int .i64 2, .string ((BA l).extract 0 l.length), .bool false, .int .i64 0, .bool false, .slice none 0 0], .int .i64 0]) (results_part2 rfl _ _ w.heap.size _ _ _ _ _ _ _ rfl rfl ((Blk.new w _ _).alloc _)) rfl ?_
    rw [unhide HX]
    exact ⟨_, rfl, ((Below.refl _ _).alloc (Nat.le_refl _) _).alloc (by simp) _, wat_nil _ _ _ _⟩
  · rw [h1, h2] at HCT
    simp only [if_true] at HCT
    have t2 : (BA []).toList.isEmpty = true := by rw [BA_toList]; rfl
    clear h1 h2
    go_enter Tryd.func73, Tryd.ntmps73
    go_wp2_with fail
    refine (unhide HCT _).mono ?_
    rintro e w1 ⟨rfl, hw1⟩
    have hw2 := hw1.symm
    subst hw2
    clear hw1
    go_wp2_with fail
    refine (unhide HPL _).mono ?_
    rintro e w1 ⟨rfl, hw1⟩
    have hw2 := hw1.symm
    subst hw2
    clear hw1
    go_wp2
    refine bodyPost_ret (v := .tuple #[.agg #[.int .i64 2, .string ((BA l).extract 0 l.length), .bool false, .int .i64 0, .bool false, .slice none 0 0], .int .i64 0]) (results_part2 rfl _ _ w.heap.size _ _ _ _ _ _ _ rfl rfl ((Blk.new w _ _).alloc _)) rfl ?_
    rw [unhide HX]
    exact ⟨_, rfl, ((Below.refl _ _).alloc (Nat.le_refl _) _).alloc (by simp) _, wat_nil _ _ _ _⟩
  · rw [h1] at HCT
    simp only [if_true] at HCT
    obtain ⟨u, hu⟩ : ∃ u, u = l.drop 1 := ⟨_, rfl⟩
    have hul : u.length ≤ 4096 := by rw [hu]; simp; omega
    rw [← hu] at HCT h2 h3
    have HPU := hide (fun W => parameter_any (BA u) W (by simp; omega))
    simp only [BA_list] at HPU
    have t2 : (BA u).toList.isEmpty = false := by
      rw [BA_toList]
      cases u with
      | nil => exact absurd rfl h2
      | cons _ _ => rfl
    obtain ⟨pu, hpu⟩ : ∃ x, x = parN u := ⟨_, rfl⟩
    rw [← hpu] at HPU h3
    have h3' : ((pu : Int) == (u.length : Int)) = false := by rw [beq_eq_false_iff_ne]; omega
    clear hu h1 h2 h3 hpu
    go_enter Tryd.func73, Tryd.ntmps73
    go_wp2_with fail
    refine (unhide HCT _).mono ?_
    rintro e w1 ⟨rfl, hw1⟩
    have hw2 := hw1.symm
    subst hw2
    clear hw1
    go_wp2_with fail
    refine (unhide HPU _).mono ?_
    rintro e w1 ⟨rfl, hw1⟩
    have hw2 := hw1.symm
    subst hw2
    clear hw1
    go_wp2_with fail
    refine (unhide HPL _).mono ?_
    rintro e w1 ⟨rfl, hw1⟩
    have hw2 := hw1.symm
    subst hw2
    clear hw1
    go_wp2
    refine bodyPost_ret (v := .tuple #[.agg #[.int .i64 2, .string ((BA l).extract 0 l.length), .bool false, .int .i64 0, .bool false, .slice none 0 0], .int .i64 0]) (results_part2 rfl _ _ w.heap.size _ _ _ _ _ _ _ rfl rfl ((Blk.new w _ _).alloc _)) rfl ?_
    rw [unhide HX]
    exact ⟨_, rfl, ((Below.refl _ _).alloc (Nat.le_refl _) _).alloc (by simp) _, wat_nil _ _ _ _⟩
set_option maxRecDepth 20000 in
set_option maxHeartbeats 4000000 in
theorem brace_bad (k : Nat) (l : List UInt8) (w : World) (hl : l.length ≤ 4096) (hnot : ¬ (l.head? = some 35 ∧ l.drop 1 ≠ [] ∧ parN (l.drop 1) = (l.drop 1).length)) (he : WEnv w) (hp : parN l ≠ 0) (hw : parN l ≠ l.length) (hs : sgnL (colonL (l.drop (parN l))) (behindL (l.drop (parN l))) = none) :
    Calls Tryd.prog 73 #[.int .i64 (k : Int), .string (BA l)] w fun e w' => BrEnd (.err 10) w e w' := by
  have HPL := hide (fun W => parameter_any (BA l) W (by simp; omega))
  simp only [BA_list] at HPL
  have hle := par_le l
  obtain ⟨n, hn⟩ : ∃ n, n = parN l := ⟨_, rfl⟩
  rw [← hn] at HPL hp hw hs hle
  have hp0 : ((n : Int) == 0) = false := by rw [beq_eq_false_iff_ne]; omega
  have hw0 : ((n : Int) == (l.length : Int)) = false := by rw [beq_eq_false_iff_ne]; omega
  have hn1 : (n : Int) ≤ (l.length : Int) := by omega
  have h2w := he.two
  have HX : Hid ((BA l).extract n l.length = BA (l.drop n)) := hide (by have := extract_end (BA l) n; simpa using this)
  have HOP : Hid (∀ o1 t0, Calls Tryd.prog 89 #[.pointer (some ⟨w.heap.size + 1, 0, none⟩), .string (BA (l.drop n))] ((w.alloc o1).alloc (.cells #[.int .i64 2, t0, .bool false, .int .i64 0, .bool false, .slice none 0 0] 35)) fun e w' => e = .returned (.tuple #[.string ⟨#[]⟩, .bool false]) ∧ GrownS ((w.alloc o1).alloc (.cells #[.int .i64 2, t0, .bool false, .int .i64 0, .bool false, .slice none 0 0] 35)) w' (fun k => k = w.heap.size + 1)) := hide (fun o1 t0 => by
    have hb : PBk ((w.alloc o1).alloc (.cells #[.int .i64 2, t0, .bool false, .int .i64 0, .bool false, .slice none 0 0] 35)) (w.heap.size + 1) (.int .i64 2) t0 (.bool false) (.slice none 0 0) 0 false := by
      have := Blk.new (w.alloc o1) 35 #[.int .i64 2, t0, .bool false, .int .i64 0, .bool false, .slice none 0 0]
      rwa [show (w.alloc o1).heap.size = w.heap.size + 1 by simp] at this
    refine (operation_any (l.drop n) (w.heap.size + 1) _ _ _ _ 0 false _ (he.below ((((Below.refl _ w).alloc (Nat.le_refl _) _).alloc (by simp) _).mono (by omega))) hb (by omega)).mono ?_
    intro e w' h
    unfold OpEnd at h
    rw [hs] at h
    exact h)
  clear hp hw hs hn he
  have hways : ((l.head? == some 35) = false) ∨ ((l.head? == some 35) = true ∧ l.drop 1 = []) ∨ ((l.head? == some 35) = true ∧ l.drop 1 ≠ [] ∧ parN (l.drop 1) ≠ (l.drop 1).length) := by
    by_cases h1 : l.head? = some 35
    · by_cases h2 : l.drop 1 = []
      · exact .inr (.inl ⟨by simpa using h1, h2⟩)
      · exact .inr (.inr ⟨by simpa using h1, h2, fun h3 => hnot ⟨h1, h2, h3⟩⟩)
    · exact .inl (by simpa using h1)
  have HCT : Hid (∀ W, Calls Tryd.prog 87 #[.string (BA l), .string ⟨#[35]⟩] W fun e w' => e = .returned (.tuple #[.string (BA (if (l.head? == some 35) then l.drop 1 else l)), .bool (l.head? == some 35)]) ∧ w' = W) := hide (fun W => by
    have := Tryd.strings_CutPrefix (BA l) ⟨#[35]⟩ W
    rw [show Lib.hasPrefix (BA l).data.toList (⟨#[35]⟩ : ByteArray).data.toList = (l.head? == some 35) from has35 l, show Lib.trimPrefix (BA l).data.toList (⟨#[35]⟩ : ByteArray).data.toList = (if (l.head? == some 35) then l.drop 1 else l) from by unfold Lib.trimPrefix; rw [has35]; rfl] at this
    exact this)
  clear hnot
  rcases hways with h1 | ⟨h1, h2⟩ | ⟨h1, h2, h3⟩
  · rw [h1] at HCT
    simp only [Bool.false_eq_true, if_false] at HCT
    clear h1
    go_enter Tryd.func73, Tryd.ntmps73
    go_wp2_with fail
    refine (unhide HCT _).mono ?_
    rintro e w1 ⟨rfl, hw1⟩
    have hw2 := hw1.symm
    subst hw2
    clear hw1
    go_wp2_with fail
    refine (unhide HPL _).mono ?_
    rintro e w1 ⟨rfl, hw1⟩
    have hw2 := hw1.symm
    subst hw2
    clear hw1
    go_wp2_with fail
    rw [unhide HX]
    refine (unhide HOP _ _).mono ?_
    rintro e w3 ⟨rfl, g3⟩
    have HBZ := hide (Blk.grownS ((Blk.new w 35 #[.int .i64 0, .string ⟨#[]⟩, .bool false, .int .i64 0, .bool false, .slice none 0 0]).alloc _) g3 (by simp))
    have HBB := hide ((((Below.refl _ w).alloc (Nat.le_refl _) _).alloc (by simp) _).trans (g3.below (n := w.heap.size) (by simp; omega) (fun k e => by omega)))
    have z0 : w3.cell? ⟨w.heap.size, 0, none⟩ = some (.int .i64 0) := (unhide HBZ).cell 0 rfl
    have z1 : w3.cell? ⟨w.heap.size, 1, none⟩ = some (.string ⟨#[]⟩) := (unhide HBZ).cell 1 rfl
    have z2 : w3.cell? ⟨w.heap.size, 2, none⟩ = some (.bool false) := (unhide HBZ).cell 2 rfl
    have z3 : w3.cell? ⟨w.heap.size, 3, none⟩ = some (.int .i64 0) := (unhide HBZ).cell 3 rfl
    have z4 : w3.cell? ⟨w.heap.size, 4, none⟩ = some (.bool false) := (unhide HBZ).cell 4 rfl
    have z5 : w3.cell? ⟨w.heap.size, 5, none⟩ = some (.slice none 0 0) := (unhide HBZ).cell 5 rfl
    have zf : ∀ j, w3.frozen? ⟨w.heap.size, j, none⟩ = false := fun j => (unhide HBZ).frozen j
    clear g3 HOP
    go_wp2
    refine bodyPost_ret (v := .tuple #[.agg #[.int .i64 0, .string ⟨#[]⟩, .bool false, .int .i64 0, .bool false, .slice none 0 0], .int .i64 10]) (results_part2 rfl _ _ w.heap.size _ _ _ _ _ _ _ rfl rfl (blk_T6 (unhide HBZ) (.int .i64 0) (.string ⟨#[]⟩) (.bool false) (.int .i64 0) (.bool false) (.slice none 0 0))) rfl ?_
    exact ⟨rfl, by decide, below_T6 (unhide HBB) _ _ _ _ _ _⟩
  · rw [h1, h2] at HCT
    simp only [if_true] at HCT
    have t2 : (BA []).toList.isEmpty = true := by rw [BA_toList]; rfl
    clear h1 h2
    go_enter Tryd.func73, Tryd.ntmps73
    go_wp2_with fail
    refine (unhide HCT _).mono ?_
    rintro e w1 ⟨rfl, hw1⟩
    have hw2 := hw1.symm
    subst hw2
    clear hw1
    go_wp2_with fail
    refine (unhide HPL _).mono ?_
    rintro e w1 ⟨rfl, hw1⟩
    have hw2 := hw1.symm
    subst hw2
    clear hw1
    go_wp2_with fail
    rw [unhide HX]
    refine (unhide HOP _ _).mono ?_
    rintro e w3 ⟨rfl, g3⟩
    have HBZ := hide (Blk.grownS ((Blk.new w 35 #[.int .i64 0, .string ⟨#[]⟩, .bool false, .int .i64 0, .bool false, .slice none 0 0]).alloc _) g3 (by simp))
    have HBB := hide ((((Below.refl _ w).alloc (Nat.le_refl _) _).alloc (by simp) _).trans (g3.below (n := w.heap.size) (by simp; omega) (fun k e => by omega)))
    have z0 : w3.cell? ⟨w.heap.size, 0, none⟩ = some (.int .i64 0) := (unhide HBZ).cell 0 rfl
    have z1 : w3.cell? ⟨w.heap.size, 1, none⟩ = some (.string ⟨#[]⟩) := (unhide HBZ).cell 1 rfl
    have z2 : w3.cell? ⟨w.heap.size, 2, none⟩ = some (.bool false) := (unhide HBZ).cell 2 rfl
    have z3 : w3.cell? ⟨w.heap.size, 3, none⟩ = some (.int .i64 0) := (unhide HBZ).cell 3 rfl
    have z4 : w3.cell? ⟨w.heap.size, 4, none⟩ = some (.bool false) := (unhide HBZ).cell 4 rfl
    have z5 : w3.cell? ⟨w.heap.size, 5, none⟩ = some (.slice none 0 0) := (unhide HBZ).cell 5 rfl
    have zf : ∀ j, w3.frozen? ⟨w.heap.size, j, none⟩ = false := fun j => (unhide HBZ).frozen j
    clear g3 HOP
    go_wp2
    refine bodyPost_ret (v := .tuple #[.agg #[.int .i64 0, .string ⟨#[]⟩, .bool false, .int .i64 0, .bool false, .slice none 0 0], .int .i64 10]) (results_part2 rfl _ _ w.heap.size _ _ _ _ _ _ _ rfl rfl (blk_T6 (unhide HBZ) (.int .i64 0) (.string ⟨#[]⟩) (.bool false) (.int .i64 0) (.bool false) (.slice none 0 0))) rfl ?_
    exact ⟨rfl, by decide, below_T6 (unhide HBB) _ _ _ _ _ _⟩
  · rw [h1] at HCT
    simp only [if_true] at HCT
    obtain ⟨u, hu⟩ : ∃ u, u = l.drop 1 := ⟨_, rfl⟩
    have hul : u.length ≤ 4096 := by rw [hu]; simp; omega
    rw [← hu] at HCT h2 h3
    have HPU := hide (fun W => parameter_any (BA u) W (by simp; omega))
    simp only [BA_list] at HPU
    have t2 : (BA u).toList.isEmpty = false := by
      rw [BA_toList]
      cases u with
      | nil => exact absurd rfl h2
      | cons _ _ => rfl
    obtain ⟨pu, hpu⟩ : ∃ x, x = parN u := ⟨_, rfl⟩
    rw [← hpu] at HPU h3
    have h3' : ((pu : Int) == (u.length : Int)) = false := by rw [beq_eq_false_iff_ne]; omega
    clear hu h1 h2 h3 hpu
    go_enter Tryd.func73, Tryd.ntmps73
    go_wp2_with fail
    refine (unhide HCT _).mono ?_
    rintro e w1 ⟨rfl, hw1⟩
    have hw2 := hw1.symm
    subst hw2
    clear hw1
    go_wp2_with fail
    refine (unhide HPU _).mono ?_
    rintro e w1 ⟨rfl, hw1⟩
    have hw2 := hw1.symm
    subst hw2
    clear hw1
    go_wp2_with fail
    refine (unhide HPL _).mono ?_
    rintro e w1 ⟨rfl, hw1⟩
    have hw2 := hw1.symm
    subst hw2
    clear hw1
    go_wp2_with fail
    rw [unhide HX]
    refine (unhide HOP _ _).mono ?_
    rintro e w3 ⟨rfl, g3⟩
    have HBZ := hide (Blk.grownS ((Blk.new w 35 #[.int .i64 0, .string ⟨#[]⟩, .bool false, .int .i64 0, .bool false, .slice none 0 0]).alloc _) g3 (by simp))
    have HBB := hide ((((Below.refl _ w).alloc (Nat.le_refl _) _).alloc (by simp) _).trans (g3.below (n := w.heap.size) (by simp; omega) (fun k e => by omega)))
    have z0 : w3.cell? ⟨w.heap.size, 0, none⟩ = some (.int .i64 0) := (unhide HBZ).cell 0 rfl
    have z1 : w3.cell? ⟨w.heap.size, 1, none⟩ = some (.string ⟨#[]⟩) := (unhide HBZ).cell 1 rfl
    have z2 : w3.cell? ⟨w.heap.size, 2, none⟩ = some (.bool false) := (unhide HBZ).cell 2 rfl
    have z3 : w3.cell? ⟨w.heap.size, 3, none⟩ = some (.int .i64 0) := (unhide HBZ).cell 3 rfl
    have z4 : w3.cell? ⟨w.heap.size, 4, none⟩ = some (.bool false) := (unhide HBZ).cell 4 rfl
    have z5 : w3.cell? ⟨w.heap.size, 5, none⟩ = some (.slice none 0 0) := (unhide HBZ).cell 5 rfl
    have zf : ∀ j, w3.frozen? ⟨w.heap.size, j, none⟩ = false := fun j => (unhide HBZ).frozen j
    clear g3 HOP
    go_wp2
    refine bodyPost_ret (v := .tuple #[.agg #[.int .i64 0, .string ⟨#[]⟩, .bool false, .int .i64 0, .bool false, .slice none 0 0], .int .i64 10]) (results_part2 rfl _ _ w.heap.size _ _ _ _ _ _ _ rfl rfl (blk_T6 (unhide HBZ) (.int .i64 0) (.string ⟨#[]⟩) (.bool false) (.int .i64 0) (.bool false) (.slice none 0 0))) rfl ?_
    exact ⟨rfl, by decide, below_T6 (unhide HBB) _ _ _ _ _ _⟩
set_option maxRecDepth 20000 in
set_option maxHeartbeats 4000000 in
theorem brace_err {N : Nat} (hW : WordN N) (k : Nat) (l : List UInt8) (w : World) (hl : l.length ≤ 4096) (hnot : ¬ (l.head? = some 35 ∧ l.drop 1 ≠ [] ∧ parN (l.drop 1) = (l.drop 1).length)) (he : WEnv w) (hk : k < 6) (hlN : l.length ≤ N) (hp : parN l ≠ 0) (hw : parN l ≠ l.length) (op : Int) (t : List UInt8) (hs : sgnL (colonL (l.drop (parN l))) (behindL (l.drop (parN l))) = some (op, t)) (x : Int) (hR : (rdC true (withinW k op) t).word = .err x) :
    Calls Tryd.prog 73 #[.int .i64 (k : Int), .string (BA l)] w fun e w' => BrEnd (.err x) w e w' := by
  have HPL := hide (fun W => parameter_any (BA l) W (by simp; omega))
  simp only [BA_list] at HPL
  have hle := par_le l
  have htl : t.length ≤ l.length := by
    have h1 := sgn_len hs
    have h2 := behind_len (l.drop (parN l))
    have h3 : (l.drop (parN l)).length ≤ l.length := by simp
    omega
  obtain ⟨n, hn⟩ : ∃ n, n = parN l := ⟨_, rfl⟩
  rw [← hn] at HPL hp hw hs hle
  have hp0 : ((n : Int) == 0) = false := by rw [beq_eq_false_iff_ne]; omega
  have hw0 : ((n : Int) == (l.length : Int)) = false := by rw [beq_eq_false_iff_ne]; omega
  have hn1 : (n : Int) ≤ (l.length : Int) := by omega
  have h2w := he.two
  have HX : Hid ((BA l).extract n l.length = BA (l.drop n)) := hide (by have := extract_end (BA l) n; simpa using this)
  have HXT : Hid ((BA l).extract 0 n = BA (l.take n)) := hide (by have := extract_take (BA l) 0 n; simpa using this)
  obtain ⟨cl, hcl⟩ : ∃ x, x = colonL (l.drop n) := ⟨_, rfl⟩
  have HOP : Hid (∀ o1 t0, Calls Tryd.prog 89 #[.pointer (some ⟨w.heap.size + 1, 0, none⟩), .string (BA (l.drop n))] ((w.alloc o1).alloc (.cells #[.int .i64 2, t0, .bool false, .int .i64 0, .bool false, .slice none 0 0] 35)) fun e w' => e = .returned (.tuple #[.string (BA t), .bool true]) ∧ GrownS ((w.alloc o1).alloc (.cells #[.int .i64 2, t0, .bool false, .int .i64 0, .bool false, .slice none 0 0] 35)) w' (fun k => k = w.heap.size + 1) ∧ PBk w' (w.heap.size + 1) (.int .i64 2) t0 (.bool false) (.slice none 0 0) op cl) := hide (fun o1 t0 => by
    have hb : PBk ((w.alloc o1).alloc (.cells #[.int .i64 2, t0, .bool false, .int .i64 0, .bool false, .slice none 0 0] 35)) (w.heap.size + 1) (.int .i64 2) t0 (.bool false) (.slice none 0 0) 0 false := by
      have := Blk.new (w.alloc o1) 35 #[.int .i64 2, t0, .bool false, .int .i64 0, .bool false, .slice none 0 0]
      rwa [show (w.alloc o1).heap.size = w.heap.size + 1 by simp] at this
    refine (operation_any (l.drop n) (w.heap.size + 1) _ _ _ _ 0 false _ (he.below ((((Below.refl _ w).alloc (Nat.le_refl _) _).alloc (by simp) _).mono (by omega))) hb (by omega)).mono ?_
    intro e w' h
    unfold OpEnd at h
    rw [hs] at h
    rw [hcl]
    exact h)
  have HWI := hide (fun W (hE : WEnv W) => within_any k op W hE hk)
  have hwk : withinW k op < 6 := within_lt k op
  have HWD : Hid (∀ W, WEnv W → Calls Tryd.prog 26 #[.int .i64 ((withinW k op : Nat) : Int), .string (BA t)] W fun e w' => WEnd (rdC true (withinW k op) t).word W e w') := hide (fun W hE => hW (withinW k op) t W hE hwk (by omega) (by omega))
  rw [hR] at HWD
  have HE := hide he
  have HCL := hide hcl
  clear hp hw hs hn he hW hcl hR hwk htl hlN
  have hways : ((l.head? == some 35) = false) ∨ ((l.head? == some 35) = true ∧ l.drop 1 = []) ∨ ((l.head? == some 35) = true ∧ l.drop 1 ≠ [] ∧ parN (l.drop 1) ≠ (l.drop 1).length) := by
    by_cases h1 : l.head? = some 35
    · by_cases h2 : l.drop 1 = []
      · exact .inr (.inl ⟨by simpa using h1, h2⟩)
      · exact .inr (.inr ⟨by simpa using h1, h2, fun h3 => hnot ⟨h1, h2, h3⟩⟩)
    · exact .inl (by simpa using h1)
  have HCT : Hid (∀ W, Calls Tryd.prog 87 #[.string (BA l), .string ⟨#[35]⟩] W fun e w' => e = .returned (.tuple #[.string (BA (if (l.head? == some 35) then l.drop 1 else l)), .bool (l.head? == some 35)]) ∧ w' = W) := hide (fun W => by
    have := Tryd.strings_CutPrefix (BA l) ⟨#[35]⟩ W
    rw [show Lib.hasPrefix (BA l).data.toList (⟨#[35]⟩ : ByteArray).data.toList = (l.head? == some 35) from has35 l, show Lib.trimPrefix (BA l).data.toList (⟨#[35]⟩ : ByteArray).data.toList = (if (l.head? == some 35) then l.drop 1 else l) from by unfold Lib.trimPrefix; rw [has35]; rfl] at this
    exact this)
  clear hnot
  rcases hways with h1 | ⟨h1, h2⟩ | ⟨h1, h2, h3⟩
  · rw [h1] at HCT
    simp only [Bool.false_eq_true, if_false] at HCT
    clear h1
    go_enter Tryd.func73, Tryd.ntmps73
    go_wp2_with fail
    refine (unhide HCT _).mono ?_
    rintro e w1 ⟨rfl, hw1⟩
    have hw2 := hw1.symm
    subst hw2
    clear hw1
    go_wp2_with fail
    refine (unhide HPL _).mono ?_
    rintro e w1 ⟨rfl, hw1⟩
    have hw2 := hw1.symm
    subst hw2
    clear hw1
    go_wp2_with fail
    rw [unhide HX]
    refine (unhide HOP _ _).mono ?_
    rintro e w3 ⟨rfl, g3, hpb3⟩
    have HB3 := hide ((((Below.refl _ w).alloc (Nat.le_refl _) _).alloc (by simp) _).trans (g3.below (n := w.heap.size) (by simp; omega) (fun k e => by omega)))
    have HE3 := hide ((unhide HE).below ((unhide HB3).mono (by omega)))
    have HZ3 := hide (Blk.grownS ((Blk.new w 35 #[.int .i64 0, .string ⟨#[]⟩, .bool false, .int .i64 0, .bool false, .slice none 0 0]).alloc _) g3 (by simp))
    have p3 : w3.cell? ⟨w.heap.size + 1, 3, none⟩ = some (.int .i64 op) := Blk.cell hpb3 3 rfl
    have HP3 := hide hpb3
    clear g3 HOP hpb3
    go_wp2_with fail
    refine (unhide HWI _ (unhide HE3)).mono ?_
    rintro e w4 ⟨rfl, hw4⟩
    have hw5 := hw4.symm
    subst hw5
    clear hw4
    go_wp2_with fail
    refine (unhide HWD _ (unhide HE3)).mono ?_
    rintro e w5 ⟨rfl, hx, b5⟩
    have hx1 : (x != 0) = true := by simpa using hx
    have HXX := hide hx
    have HBZ := hide (Blk.below (unhide HZ3) b5 (Blk.lt (unhide HZ3)))
    have HBB := hide ((unhide HB3).trans (b5.mono (unhide HB3).size))
    have z0 : w5.cell? ⟨w.heap.size, 0, none⟩ = some (.int .i64 0) := (unhide HBZ).cell 0 rfl
    have z1 : w5.cell? ⟨w.heap.size, 1, none⟩ = some (.string ⟨#[]⟩) := (unhide HBZ).cell 1 rfl
    have z2 : w5.cell? ⟨w.heap.size, 2, none⟩ = some (.bool false) := (unhide HBZ).cell 2 rfl
    have z3 : w5.cell? ⟨w.heap.size, 3, none⟩ = some (.int .i64 0) := (unhide HBZ).cell 3 rfl
    have z4 : w5.cell? ⟨w.heap.size, 4, none⟩ = some (.bool false) := (unhide HBZ).cell 4 rfl
    have z5 : w5.cell? ⟨w.heap.size, 5, none⟩ = some (.slice none 0 0) := (unhide HBZ).cell 5 rfl
    have zf : ∀ j, w5.frozen? ⟨w.heap.size, j, none⟩ = false := fun j => (unhide HBZ).frozen j
    clear b5 hx p3 HWD HWI
    go_wp2
    refine bodyPost_ret (v := .tuple #[.agg #[.int .i64 0, .string ⟨#[]⟩, .bool false, .int .i64 0, .bool false, .slice none 0 0], .int .i64 x]) (results_part2 rfl _ _ w.heap.size _ _ _ _ _ _ _ rfl rfl (blk_T6 (unhide HBZ) (.int .i64 0) (.string ⟨#[]⟩) (.bool false) (.int .i64 0) (.bool false) (.slice none 0 0))) rfl ?_
    exact ⟨rfl, unhide HXX, below_T6 (unhide HBB) _ _ _ _ _ _⟩
  · rw [h1, h2] at HCT
    simp only [if_true] at HCT
    have t2 : (BA []).toList.isEmpty = true := by rw [BA_toList]; rfl
    clear h1 h2
    go_enter Tryd.func73, Tryd.ntmps73
    go_wp2_with fail
    refine (unhide HCT _).mono ?_
    rintro e w1 ⟨rfl, hw1⟩
    have hw2 := hw1.symm
    subst hw2
    clear hw1
    go_wp2_with fail
    refine (unhide HPL _).mono ?_
    rintro e w1 ⟨rfl, hw1⟩
    have hw2 := hw1.symm
    subst hw2
    clear hw1
    go_wp2_with fail
    rw [unhide HX]
    refine (unhide HOP _ _).mono ?_
    rintro e w3 ⟨rfl, g3, hpb3⟩
    have HB3 := hide ((((Below.refl _ w).alloc (Nat.le_refl _) _).alloc (by simp) _).trans (g3.below (n := w.heap.size) (by simp; omega) (fun k e => by omega)))
    have HE3 := hide ((unhide HE).below ((unhide HB3).mono (by omega)))
    have HZ3 := hide (Blk.grownS ((Blk.new w 35 #[.int .i64 0, .string ⟨#[]⟩, .bool false, .int .i64 0, .bool false, .slice none 0 0]).alloc _) g3 (by simp))
    have p3 : w3.cell? ⟨w.heap.size + 1, 3, none⟩ = some (.int .i64 op) := Blk.cell hpb3 3 rfl
    have HP3 := hide hpb3
    clear g3 HOP hpb3
    go_wp2_with fail
    refine (unhide HWI _ (unhide HE3)).mono ?_
    rintro e w4 ⟨rfl, hw4⟩
    have hw5 := hw4.symm
    subst hw5
    clear hw4
    go_wp2_with fail
    refine (unhide HWD _ (unhide HE3)).mono ?_
    rintro e w5 ⟨rfl, hx, b5⟩
    have hx1 : (x != 0) = true := by simpa using hx
    have HXX := hide hx
    have HBZ := hide (Blk.below (unhide HZ3) b5 (Blk.lt (unhide HZ3)))
    have HBB := hide ((unhide HB3).trans (b5.mono (unhide HB3).size))
    have z0 : w5.cell? ⟨w.heap.size, 0, none⟩ = some (.int .i64 0) := (unhide HBZ).cell 0 rfl
    have z1 : w5.cell? ⟨w.heap.size, 1, none⟩ = some (.string ⟨#[]⟩) := (unhide HBZ).cell 1 rfl
    have z2 : w5.cell? ⟨w.heap.size, 2, none⟩ = some (.bool false) := (unhide HBZ).cell 2 rfl
    have z3 : w5.cell? ⟨w.heap.size, 3, none⟩ = some (.int .i64 0) := (unhide HBZ).cell 3 rfl
    have z4 : w5.cell? ⟨w.heap.size, 4, none⟩ = some (.bool false) := (unhide HBZ).cell 4 rfl
    have z5 : w5.cell? ⟨w.heap.size, 5, none⟩ = some (.slice none 0 0) := (unhide HBZ).cell 5 rfl
    have zf : ∀ j, w5.frozen? ⟨w.heap.size, j, none⟩ = false := fun j => (unhide HBZ).frozen j
    clear b5 hx p3 HWD HWI
    go_wp2
    refine bodyPost_ret (v := .tuple #[.agg #[.int .i64 0, .string ⟨#[]⟩, .bool false, .int .i64 0, .bool false, .slice none 0 0], .int .i64 x]) (results_part2 rfl _ _ w.heap.size _ _ _ _ _ _ _ rfl rfl (blk_T6 (unhide HBZ) (.int .i64 0) (.string ⟨#[]⟩) (.bool false) (.int .i64 0) (.bool false) (.slice none 0 0))) rfl ?_
    exact ⟨rfl, unhide HXX, below_T6 (unhide HBB) _ _ _ _ _ _⟩
  · rw [h1] at HCT
    simp only [if_true] at HCT
    obtain ⟨u, hu⟩ : ∃ u, u = l.drop 1 := ⟨_, rfl⟩
    have hul : u.length ≤ 4096 := by rw [hu]; simp; omega
    rw [← hu] at HCT h2 h3
    have HPU := hide (fun W => parameter_any (BA u) W (by simp; omega))
    simp only [BA_list] at HPU
    have t2 : (BA u).toList.isEmpty = false := by
      rw [BA_toList]
      cases u with
      | nil => exact absurd rfl h2
      | cons _ _ => rfl
    obtain ⟨pu, hpu⟩ : ∃ x, x = parN u := ⟨_, rfl⟩
    rw [← hpu] at HPU h3
    have h3' : ((pu : Int) == (u.length : Int)) = false := by rw [beq_eq_false_iff_ne]; omega
    clear hu h1 h2 h3 hpu
    go_enter Tryd.func73, Tryd.ntmps73
    go_wp2_with fail
    refine (unhide HCT _).mono ?_
    rintro e w1 ⟨rfl, hw1⟩
    have hw2 := hw1.symm
    subst hw2
    clear hw1
    go_wp2_with fail
    refine (unhide HPU _).mono ?_
    rintro e w1 ⟨rfl, hw1⟩
    have hw2 := hw1.symm
    subst hw2
    clear hw1
    go_wp2_with fail
    refine (unhide HPL _).mono ?_
    rintro e w1 ⟨rfl, hw1⟩
    have hw2 := hw1.symm
    subst hw2
    clear hw1
    go_wp2_with fail
    rw [unhide HX]
    refine (unhide HOP _ _).mono ?_
    rintro e w3 ⟨rfl, g3, hpb3⟩
    have HB3 := hide ((((Below.refl _ w).alloc (Nat.le_refl _) _).alloc (by simp) _).trans (g3.below (n := w.heap.size) (by simp; omega) (fun k e => by omega)))
    have HE3 := hide ((unhide HE).below ((unhide HB3).mono (by omega)))
    have HZ3 := hide (Blk.grownS ((Blk.new w 35 #[.int .i64 0, .string ⟨#[]⟩, .bool false, .int .i64 0, .bool false, .slice none 0 0]).alloc _) g3 (by simp))
    have p3 : w3.cell? ⟨w.heap.size + 1, 3, none⟩ = some (.int .i64 op) := Blk.cell hpb3 3 rfl
    have HP3 := hide hpb3
    clear g3 HOP hpb3
    go_wp2_with fail
    refine (unhide HWI _ (unhide HE3)).mono ?_
    rintro e w4 ⟨rfl, hw4⟩
    have hw5 := hw4.symm
    subst hw5
    clear hw4
    go_wp2_with fail
    refine (unhide HWD _ (unhide HE3)).mono ?_
    rintro e w5 ⟨rfl, hx, b5⟩
    have hx1 : (x != 0) = true := by simpa using hx
    have HXX := hide hx
    have HBZ := hide (Blk.below (unhide HZ3) b5 (Blk.lt (unhide HZ3)))
    have HBB := hide ((unhide HB3).trans (b5.mono (unhide HB3).size))
    have z0 : w5.cell? ⟨w.heap.size, 0, none⟩ = some (.int .i64 0) := (unhide HBZ).cell 0 rfl
    have z1 : w5.cell? ⟨w.heap.size, 1, none⟩ = some (.string ⟨#[]⟩) := (unhide HBZ).cell 1 rfl
    have z2 : w5.cell? ⟨w.heap.size, 2, none⟩ = some (.bool false) := (unhide HBZ).cell 2 rfl
    have z3 : w5.cell? ⟨w.heap.size, 3, none⟩ = some (.int .i64 0) := (unhide HBZ).cell 3 rfl
    have z4 : w5.cell? ⟨w.heap.size, 4, none⟩ = some (.bool false) := (unhide HBZ).cell 4 rfl
    have z5 : w5.cell? ⟨w.heap.size, 5, none⟩ = some (.slice none 0 0) := (unhide HBZ).cell 5 rfl
    have zf : ∀ j, w5.frozen? ⟨w.heap.size, j, none⟩ = false := fun j => (unhide HBZ).frozen j
    clear b5 hx p3 HWD HWI
    go_wp2
    refine bodyPost_ret (v := .tuple #[.agg #[.int .i64 0, .string ⟨#[]⟩, .bool false, .int .i64 0, .bool false, .slice none 0 0], .int .i64 x]) (results_part2 rfl _ _ w.heap.size _ _ _ _ _ _ _ rfl rfl (blk_T6 (unhide HBZ) (.int .i64 0) (.string ⟨#[]⟩) (.bool false) (.int .i64 0) (.bool false) (.slice none 0 0))) rfl ?_
    exact ⟨rfl, unhide HXX, below_T6 (unhide HBB) _ _ _ _ _ _⟩
set_option maxRecDepth 20000 in
set_option maxHeartbeats 4000000 in
theorem brace_ok {N : Nat} (hW : WordN N) (k : Nat) (l : List UInt8) (w : World) (hl : l.length ≤ 4096) (hnot : ¬ (l.head? = some 35 ∧ l.drop 1 ≠ [] ∧ parN (l.drop 1) = (l.drop 1).length)) (he : WEnv w) (hk : k < 6) (hlN : l.length ≤ N) (hp : parN l ≠ 0) (hw : parN l ≠ l.length) (op : Int) (t : List UInt8) (hs : sgnL (colonL (l.drop (parN l))) (behindL (l.drop (parN l))) = some (op, t)) (ps : List Prt) (hR : (rdC true (withinW k op) t).word = .ok ps) :
    Calls Tryd.prog 73 #[.int .i64 (k : Int), .string (BA l)] w fun e w' => BrEnd (.ok (.mk 2 (l.take (parN l)) false op (colonL (l.drop (parN l))) ps)) w e w' := by
  have HPL := hide (fun W => parameter_any (BA l) W (by simp; omega))
  simp only [BA_list] at HPL
  have hle := par_le l
  have htl : t.length ≤ l.length := by
    have h1 := sgn_len hs
    have h2 := behind_len (l.drop (parN l))
    have h3 : (l.drop (parN l)).length ≤ l.length := by simp
    omega
  obtain ⟨n, hn⟩ : ∃ n, n = parN l := ⟨_, rfl⟩
  rw [← hn] at HPL hp hw hs hle
  rw [← hn]
  have hp0 : ((n : Int) == 0) = false := by rw [beq_eq_false_iff_ne]; omega
  have hw0 : ((n : Int) == (l.length : Int)) = false := by rw [beq_eq_false_iff_ne]; omega
  have hn1 : (n : Int) ≤ (l.length : Int) := by omega
  have h2w := he.two
  have HX : Hid ((BA l).extract n l.length = BA (l.drop n)) := hide (by have := extract_end (BA l) n; simpa using this)
  have HXT : Hid ((BA l).extract 0 n = BA (l.take n)) := hide (by have := extract_take (BA l) 0 n; simpa using this)
  obtain ⟨cl, hcl⟩ : ∃ x, x = colonL (l.drop n) := ⟨_, rfl⟩
  have HOP : Hid (∀ o1 t0, Calls Tryd.prog 89 #[.pointer (some ⟨w.heap.size + 1, 0, none⟩), .string (BA (l.drop n))] ((w.alloc o1).alloc (.cells #[.int .i64 2, t0, .bool false, .int .i64 0, .bool false, .slice none 0 0] 35)) fun e w' => e = .returned (.tuple #[.string (BA t), .bool true]) ∧ GrownS ((w.alloc o1).alloc (.cells #[.int .i64 2, t0, .bool false, .int .i64 0, .bool false, .slice none 0 0] 35)) w' (fun k => k = w.heap.size + 1) ∧ PBk w' (w.heap.size + 1) (.int .i64 2) t0 (.bool false) (.slice none 0 0) op cl) := hide (fun o1 t0 => by
    have hb : PBk ((w.alloc o1).alloc (.cells #[.int .i64 2, t0, .bool false, .int .i64 0, .bool false, .slice none 0 0] 35)) (w.heap.size + 1) (.int .i64 2) t0 (.bool false) (.slice none 0 0) 0 false := by
      have := Blk.new (w.alloc o1) 35 #[.int .i64 2, t0, .bool false, .int .i64 0, .bool false, .slice none 0 0]
      rwa [show (w.alloc o1).heap.size = w.heap.size + 1 by simp] at this
    refine (operation_any (l.drop n) (w.heap.size + 1) _ _ _ _ 0 false _ (he.below ((((Below.refl _ w).alloc (Nat.le_refl _) _).alloc (by simp) _).mono (by omega))) hb (by omega)).mono ?_
    intro e w' h
    unfold OpEnd at h
    rw [hs] at h
    rw [hcl]
    exact h)
  have HWI := hide (fun W (hE : WEnv W) => within_any k op W hE hk)
  have hwk : withinW k op < 6 := within_lt k op
  have HWD : Hid (∀ W, WEnv W → Calls Tryd.prog 26 #[.int .i64 ((withinW k op : Nat) : Int), .string (BA t)] W fun e w' => WEnd (rdC true (withinW k op) t).word W e w') := hide (fun W hE => hW (withinW k op) t W hE hwk (by omega) (by omega))
  rw [hR] at HWD
  have HE := hide he
  have HCL := hide hcl
  clear hp hw hs hn he hW hcl hR hwk htl hlN
  have hways : ((l.head? == some 35) = false) ∨ ((l.head? == some 35) = true ∧ l.drop 1 = []) ∨ ((l.head? == some 35) = true ∧ l.drop 1 ≠ [] ∧ parN (l.drop 1) ≠ (l.drop 1).length) := by
    by_cases h1 : l.head? = some 35
    · by_cases h2 : l.drop 1 = []
      · exact .inr (.inl ⟨by simpa using h1, h2⟩)
      · exact .inr (.inr ⟨by simpa using h1, h2, fun h3 => hnot ⟨h1, h2, h3⟩⟩)
    · exact .inl (by simpa using h1)
  have HCT : Hid (∀ W, Calls Tryd.prog 87 #[.string (BA l), .string ⟨#[35]⟩] W fun e w' => e = .returned (.tuple #[.string (BA (if (l.head? == some 35) then l.drop 1 else l)), .bool (l.head? == some 35)]) ∧ w' = W) := hide (fun W => by
    have := Tryd.strings_CutPrefix (BA l) ⟨#[35]⟩ W
    rw [show Lib.hasPrefix (BA l).data.toList (⟨#[35]⟩ : ByteArray).data.toList = (l.head? == some 35) from has35 l, show Lib.trimPrefix (BA l).data.toList (⟨#[35]⟩ : ByteArray).data.toList = (if (l.head? == some 35) then l.drop 1 else l) from by unfold Lib.trimPrefix; rw [has35]; rfl] at this
    exact this)
  clear hnot
  rcases hways with h1 | ⟨h1, h2⟩ | ⟨h1, h2, h3⟩
  · rw [h1] at HCT
    simp only [Bool.false_eq_true, if_false] at HCT
    clear h1
    go_enter Tryd.func73, Tryd.ntmps73
    go_wp2_with fail
    refine (unhide HCT _).mono ?_
    rintro e w1 ⟨rfl, hw1⟩
    have hw2 := hw1.symm
    subst hw2
    clear hw1
    go_wp2_with fail
    refine (unhide HPL _).mono ?_
    rintro e w1 ⟨rfl, hw1⟩
    have hw2 := hw1.symm
    subst hw2
    clear hw1
    go_wp2_with fail
    rw [unhide HX]
    refine (unhide HOP _ _).mono ?_
    rintro e w3 ⟨rfl, g3, hpb3⟩
    have HB3 := hide ((((Below.refl _ w).alloc (Nat.le_refl _) _).alloc (by simp) _).trans (g3.below (n := w.heap.size) (by simp; omega) (fun k e => by omega)))
    have HE3 := hide ((unhide HE).below ((unhide HB3).mono (by omega)))
    have HZ3 := hide (Blk.grownS ((Blk.new w 35 #[.int .i64 0, .string ⟨#[]⟩, .bool false, .int .i64 0, .bool false, .slice none 0 0]).alloc _) g3 (by simp))
    have p3 : w3.cell? ⟨w.heap.size + 1, 3, none⟩ = some (.int .i64 op) := Blk.cell hpb3 3 rfl
    have HP3 := hide hpb3
    clear g3 HOP hpb3
    go_wp2_with fail
    refine (unhide HWI _ (unhide HE3)).mono ?_
    rintro e w4 ⟨rfl, hw4⟩
    have hw5 := hw4.symm
    subst hw5
    clear hw4
    go_wp2_with fail
    refine (unhide HWD _ (unhide HE3)).mono ?_
    rintro e w5 ⟨v, rfl, b5, hv⟩
    obtain ⟨va, vc, rfl, _⟩ := hv.len
    have hP5 := Blk.below (unhide HP3) b5 (Blk.lt (unhide HP3))
    have q0 : w5.cell? ⟨w.heap.size + 1, 0, none⟩ = some (.int .i64 2) := hP5.cell 0 rfl
    have q1 : w5.cell? ⟨w.heap.size + 1, 1, none⟩ = some (.string ((BA l).extract 0 n)) := hP5.cell 1 rfl
    have q2 : w5.cell? ⟨w.heap.size + 1, 2, none⟩ = some (.bool false) := hP5.cell 2 rfl
    have q3 : w5.cell? ⟨w.heap.size + 1, 3, none⟩ = some (.int .i64 op) := hP5.cell 3 rfl
    have q4 : w5.cell? ⟨w.heap.size + 1, 4, none⟩ = some (.bool cl) := hP5.cell 4 rfl
    have q5 : w5.cell? ⟨w.heap.size + 1, 5, none⟩ = some (.slice none 0 0) := hP5.cell 5 rfl
    have qf : ∀ j, w5.frozen? ⟨w.heap.size + 1, j, none⟩ = false := fun j => hP5.frozen j
    have HBZ := hide (Blk.below (unhide HZ3) b5 (Blk.lt (unhide HZ3)))
    have HBB := hide ((unhide HB3).trans (b5.mono (unhide HB3).size))
    have z0 : w5.cell? ⟨w.heap.size, 0, none⟩ = some (.int .i64 0) := (unhide HBZ).cell 0 rfl
    have z1 : w5.cell? ⟨w.heap.size, 1, none⟩ = some (.string ⟨#[]⟩) := (unhide HBZ).cell 1 rfl
    have z2 : w5.cell? ⟨w.heap.size, 2, none⟩ = some (.bool false) := (unhide HBZ).cell 2 rfl
    have z3 : w5.cell? ⟨w.heap.size, 3, none⟩ = some (.int .i64 0) := (unhide HBZ).cell 3 rfl
    have z4 : w5.cell? ⟨w.heap.size, 4, none⟩ = some (.bool false) := (unhide HBZ).cell 4 rfl
    have z5 : w5.cell? ⟨w.heap.size, 5, none⟩ = some (.slice none 0 0) := (unhide HBZ).cell 5 rfl
    have zf : ∀ j, w5.frozen? ⟨w.heap.size, j, none⟩ = false := fun j => (unhide HBZ).frozen j
    have HV := hide hv
    have HB5 := hide b5
    have hlt5 : w.heap.size + 1 < w5.heap.size := by have h1 := Blk.lt (unhide HP3); have := b5.size; omega
    have HL3 := hide (Blk.lt (unhide HP3))
    clear b5 hv hP5 p3 HWD HWI
    go_wp2
    refine bodyPost_ret (v := .tuple #[.agg #[.int .i64 2, .string ((BA l).extract 0 n), .bool false, .int .i64 op, .bool cl, .slice va ps.length vc], .int .i64 0]) (results_part2 rfl _ _ w.heap.size _ _ _ _ _ _ _ rfl rfl (blk_T6 (Blk.other (unhide HBZ) (a := ⟨w.heap.size + 1, 5, none⟩) (by simp) _) (.int .i64 2) (.string ((BA l).extract 0 n)) (.bool false) (.int .i64 op) (.bool cl) (.slice va ps.length vc))) rfl ?_
    rw [unhide HXT, ← unhide HCL]
    have hgs : GrownS w5 (T6 (w5.setCell ⟨w.heap.size + 1, 5, none⟩ (.slice va ps.length vc)) w.heap.size 0 (.int .i64 2) (.string (BA (l.take n))) (.bool false) (.int .i64 op) (.bool cl) (.slice va ps.length vc)) (fun k => k = w.heap.size ∨ k = w.heap.size + 1) := ((setb_grown _ _ _ _).mono (fun k _ e => .inr e)).trans ((T6_grown ..).mono (fun k _ e => .inl e))
    refine ⟨_, rfl, (unhide HBB).trans (hgs.below (unhide HBB).size (fun k e => by omega)), ?_⟩
    exact (unhide HV).kept (fun k hk => hgs.block k hk.2 (fun e => by have := unhide HL3; omega)) (fun k hk => ⟨by have := (unhide HB3).size; omega, Nat.lt_of_lt_of_le hk.2 hgs.size⟩)
  · rw [h1, h2] at HCT
    simp only [if_true] at HCT
    have t2 : (BA []).toList.isEmpty = true := by rw [BA_toList]; rfl
    clear h1 h2
    go_enter Tryd.func73, Tryd.ntmps73
    go_wp2_with fail
    refine (unhide HCT _).mono ?_
    rintro e w1 ⟨rfl, hw1⟩
    have hw2 := hw1.symm
    subst hw2
    clear hw1
    go_wp2_with fail
    refine (unhide HPL _).mono ?_
    rintro e w1 ⟨rfl, hw1⟩
    have hw2 := hw1.symm
    subst hw2
    clear hw1
    go_wp2_with fail
    rw [unhide HX]
    refine (unhide HOP _ _).mono ?_
    rintro e w3 ⟨rfl, g3, hpb3⟩
    have HB3 := hide ((((Below.refl _ w).alloc (Nat.le_refl _) _).alloc (by simp) _).trans (g3.below (n := w.heap.size) (by simp; omega) (fun k e => by omega)))
    have HE3 := hide ((unhide HE).below ((unhide HB3).mono (by omega)))
    have HZ3 := hide (Blk.grownS ((Blk.new w 35 #[.int .i64 0, .string ⟨#[]⟩, .bool false, .int .i64 0, .bool false, .slice none 0 0]).alloc _) g3 (by simp))
    have p3 : w3.cell? ⟨w.heap.size + 1, 3, none⟩ = some (.int .i64 op) := Blk.cell hpb3 3 rfl
    have HP3 := hide hpb3
    clear g3 HOP hpb3
    go_wp2_with fail
    refine (unhide HWI _ (unhide HE3)).mono ?_
    rintro e w4 ⟨rfl, hw4⟩
    have hw5 := hw4.symm
    subst hw5
    clear hw4
    go_wp2_with fail
    refine (unhide HWD _ (unhide HE3)).mono ?_
    rintro e w5 ⟨v, rfl, b5, hv⟩
    obtain ⟨va, vc, rfl, _⟩ := hv.len
    have hP5 := Blk.below (unhide HP3) b5 (Blk.lt (unhide HP3))
    have q0 : w5.cell? ⟨w.heap.size + 1, 0, none⟩ = some (.int .i64 2) := hP5.cell 0 rfl
    have q1 : w5.cell? ⟨w.heap.size + 1, 1, none⟩ = some (.string ((BA l).extract 0 n)) := hP5.cell 1 rfl
    have q2 : w5.cell? ⟨w.heap.size + 1, 2, none⟩ = some (.bool false) := hP5.cell 2 rfl
    have q3 : w5.cell? ⟨w.heap.size + 1, 3, none⟩ = some (.int .i64 op) := hP5.cell 3 rfl
    have q4 : w5.cell? ⟨w.heap.size + 1, 4, none⟩ = some (.bool cl) := hP5.cell 4 rfl
    have q5 : w5.cell? ⟨w.heap.size + 1, 5, none⟩ = some (.slice none 0 0) := hP5.cell 5 rfl
    have qf : ∀ j, w5.frozen? ⟨w.heap.size + 1, j, none⟩ = false := fun j => hP5.frozen j
    have HBZ := hide (Blk.below (unhide HZ3) b5 (Blk.lt (unhide HZ3)))
    have HBB := hide ((unhide HB3).trans (b5.mono (unhide HB3).size))
    have z0 : w5.cell? ⟨w.heap.size, 0, none⟩ = some (.int .i64 0) := (unhide HBZ).cell 0 rfl
    have z1 : w5.cell? ⟨w.heap.size, 1, none⟩ = some (.string ⟨#[]⟩) := (unhide HBZ).cell 1 rfl
    have z2 : w5.cell? ⟨w.heap.size, 2, none⟩ = some (.bool false) := (unhide HBZ).cell 2 rfl
    have z3 : w5.cell? ⟨w.heap.size, 3, none⟩ = some (.int .i64 0) := (unhide HBZ).cell 3 rfl
    have z4 : w5.cell? ⟨w.heap.size, 4, none⟩ = some (.bool false) := (unhide HBZ).cell 4 rfl
    have z5 : w5.cell? ⟨w.heap.size, 5, none⟩ = some (.slice none 0 0) := (unhide HBZ).cell 5 rfl
    have zf : ∀ j, w5.frozen? ⟨w.heap.size, j, none⟩ = false := fun j => (unhide HBZ).frozen j
    have HV := hide hv
    have HB5 := hide b5
    have hlt5 : w.heap.size + 1 < w5.heap.size := by have h1 := Blk.lt (unhide HP3); have := b5.size; omega
    have HL3 := hide (Blk.lt (unhide HP3))
    clear b5 hv hP5 p3 HWD HWI
    go_wp2
    refine bodyPost_ret (v := .tuple #[.agg #[.int .i64 2, .string ((BA l).extract 0 n), .bool false, .int .i64 op, .bool cl, .slice va ps.length vc], .int .i64 0]) (results_part2 rfl _ _ w.heap.size _ _ _ _ _ _ _ rfl rfl (blk_T6 (Blk.other (unhide HBZ) (a := ⟨w.heap.size + 1, 5, none⟩) (by simp) _) (.int .i64 2) (.string ((BA l).extract 0 n)) (.bool false) (.int .i64 op) (.bool cl) (.slice va ps.length vc))) rfl ?_
    rw [unhide HXT, ← unhide HCL]
    have hgs : GrownS w5 (T6 (w5.setCell ⟨w.heap.size + 1, 5, none⟩ (.slice va ps.length vc)) w.heap.size 0 (.int .i64 2) (.string (BA (l.take n))) (.bool false) (.int .i64 op) (.bool cl) (.slice va ps.length vc)) (fun k => k = w.heap.size ∨ k = w.heap.size + 1) := ((setb_grown _ _ _ _).mono (fun k _ e => .inr e)).trans ((T6_grown ..).mono (fun k _ e => .inl e))
    refine ⟨_, rfl, (unhide HBB).trans (hgs.below (unhide HBB).size (fun k e => by omega)), ?_⟩
    exact (unhide HV).kept (fun k hk => hgs.block k hk.2 (fun e => by have := unhide HL3; omega)) (fun k hk => ⟨by have := (unhide HB3).size; omega, Nat.lt_of_lt_of_le hk.2 hgs.size⟩)
  · rw [h1] at HCT
    simp only [if_true] at HCT
    obtain ⟨u, hu⟩ : ∃ u, u = l.drop 1 := ⟨_, rfl⟩
    have hul : u.length ≤ 4096 := by rw [hu]; simp; omega
    rw [← hu] at HCT h2 h3
    have HPU := hide (fun W => parameter_any (BA u) W (by simp; omega))
    simp only [BA_list] at HPU
    have t2 : (BA u).toList.isEmpty = false := by
      rw [BA_toList]
      cases u with
      | nil => exact absurd rfl h2
      | cons _ _ => rfl
    obtain ⟨pu, hpu⟩ : ∃ x, x = parN u := ⟨_, rfl⟩
    rw [← hpu] at HPU h3
    have h3' : ((pu : Int) == (u.length : Int)) = false := by rw [beq_eq_false_iff_ne]; omega
    clear hu h1 h2 h3 hpu
    go_enter Tryd.func73, Tryd.ntmps73
    go_wp2_with fail
    refine (unhide HCT _).mono ?_
    rintro e w1 ⟨rfl, hw1⟩
    have hw2 := hw1.symm
    subst hw2
    clear hw1
    go_wp2_with fail
    refine (unhide HPU _).mono ?_
    rintro e w1 ⟨rfl, hw1⟩
    have hw2 := hw1.symm
    subst hw2
    clear hw1
    go_wp2_with fail
    refine (unhide HPL _).mono ?_
    rintro e w1 ⟨rfl, hw1⟩
    have hw2 := hw1.symm
    subst hw2
    clear hw1
    go_wp2_with fail
    rw [unhide HX]
    refine (unhide HOP _ _).mono ?_
    rintro e w3 ⟨rfl, g3, hpb3⟩
    have HB3 := hide ((((Below.refl _ w).alloc (Nat.le_refl _) _).alloc (by simp) _).trans (g3.below (n := w.heap.size) (by simp; omega) (fun k e => by omega)))
    have HE3 := hide ((unhide HE).below ((unhide HB3).mono (by omega)))
    have HZ3 := hide (Blk.grownS ((Blk.new w 35 #[.int .i64 0, .string ⟨#[]⟩, .bool false, .int .i64 0, .bool false, .slice none 0 0]).alloc _) g3 (by simp))
    have p3 : w3.cell? ⟨w.heap.size + 1, 3, none⟩ = some (.int .i64 op) := Blk.cell hpb3 3 rfl
    have HP3 := hide hpb3
    clear g3 HOP hpb3
    go_wp2_with fail
    refine (unhide HWI _ (unhide HE3)).mono ?_
    rintro e w4 ⟨rfl, hw4⟩
    have hw5 := hw4.symm
    subst hw5
    clear hw4
    go_wp2_with fail
    refine (unhide HWD _ (unhide HE3)).mono ?_
    rintro e w5 ⟨v, rfl, b5, hv⟩
    obtain ⟨va, vc, rfl, _⟩ := hv.len
    have hP5 := Blk.below (unhide HP3) b5 (Blk.lt (unhide HP3))
    have q0 : w5.cell? ⟨w.heap.size + 1, 0, none⟩ = some (.int .i64 2) := hP5.cell 0 rfl
    have q1 : w5.cell? ⟨w.heap.size + 1, 1, none⟩ = some (.string ((BA l).extract 0 n)) := hP5.cell 1 rfl
    have q2 : w5.cell? ⟨w.heap.size + 1, 2, none⟩ = some (.bool false) := hP5.cell 2 rfl
    have q3 : w5.cell? ⟨w.heap.size + 1, 3, none⟩ = some (.int .i64 op) := hP5.cell 3 rfl
    have q4 : w5.cell? ⟨w.heap.size + 1, 4, none⟩ = some (.bool cl) := hP5.cell 4 rfl
    have q5 : w5.cell? ⟨w.heap.size + 1, 5, none⟩ = some (.slice none 0 0) := hP5.cell 5 rfl
    have qf : ∀ j, w5.frozen? ⟨w.heap.size + 1, j, none⟩ = false := fun j => hP5.frozen j
    have HBZ := hide (Blk.below (unhide HZ3) b5 (Blk.lt (unhide HZ3)))
    have HBB := hide ((unhide HB3).trans (b5.mono (unhide HB3).size))
    have z0 : w5.cell? ⟨w.heap.size, 0, none⟩ = some (.int .i64 0) := (unhide HBZ).cell 0 rfl
    have z1 : w5.cell? ⟨w.heap.size, 1, none⟩ = some (.string ⟨#[]⟩) := (unhide HBZ).cell 1 rfl
    have z2 : w5.cell? ⟨w.heap.size, 2, none⟩ = some (.bool false) := (unhide HBZ).cell 2 rfl
    have z3 : w5.cell? ⟨w.heap.size, 3, none⟩ = some (.int .i64 0) := (unhide HBZ).cell 3 rfl
    have z4 : w5.cell? ⟨w.heap.size, 4, none⟩ = some (.bool false) := (unhide HBZ).cell 4 rfl
    have z5 : w5.cell? ⟨w.heap.size, 5, none⟩ = some (.slice none 0 0) := (unhide HBZ).cell 5 rfl
    have zf : ∀ j, w5.frozen? ⟨w.heap.size, j, none⟩ = false := fun j => (unhide HBZ).frozen j
    have HV := hide hv
    have HB5 := hide b5
    have hlt5 : w.heap.size + 1 < w5.heap.size := by have h1 := Blk.lt (unhide HP3); have := b5.size; omega
    have HL3 := hide (Blk.lt (unhide HP3))
    clear b5 hv hP5 p3 HWD HWI
    go_wp2
    refine bodyPost_ret (v := .tuple #[.agg #[.int .i64 2, .string ((BA l).extract 0 n), .bool false, .int .i64 op, .bool cl, .slice va ps.length vc], .int .i64 0]) (results_part2 rfl _ _ w.heap.size _ _ _ _ _ _ _ rfl rfl (blk_T6 (Blk.other (unhide HBZ) (a := ⟨w.heap.size + 1, 5, none⟩) (by simp) _) (.int .i64 2) (.string ((BA l).extract 0 n)) (.bool false) (.int .i64 op) (.bool cl) (.slice va ps.length vc))) rfl ?_
    rw [unhide HXT, ← unhide HCL]
    have hgs : GrownS w5 (T6 (w5.setCell ⟨w.heap.size + 1, 5, none⟩ (.slice va ps.length vc)) w.heap.size 0 (.int .i64 2) (.string (BA (l.take n))) (.bool false) (.int .i64 op) (.bool cl) (.slice va ps.length vc)) (fun k => k = w.heap.size ∨ k = w.heap.size + 1) := ((setb_grown _ _ _ _).mono (fun k _ e => .inr e)).trans ((T6_grown ..).mono (fun k _ e => .inl e))
    refine ⟨_, rfl, (unhide HBB).trans (hgs.below (unhide HBB).size (fun k e => by omega)), ?_⟩
    exact (unhide HV).kept (fun k hk => hgs.block k hk.2 (fun e => by have := unhide HL3; omega)) (fun k hk => ⟨by have := (unhide HB3).size; omega, Nat.lt_of_lt_of_le hk.2 hgs.size⟩)

theorem wbrace_any {N : Nat} (hW : WordN N) (k : Nat) (l : List UInt8) (w : World) (he : WEnv w) (hk : k < 6) (hlN : l.length ≤ N) (hl : l.length ≤ 4096) :
    Calls Tryd.prog 73 #[.int .i64 (k : Int), .string (BA l)] w fun e w' => BrEnd (brcL (rdC true) k l) w e w' := by
  unfold brcL
  split
  · next h => exact brace_len k l w hl (by simp [h.1]) h.2.1 h.2.2
  next hnot =>
  split
  · next h => exact brace_no k l w hl hnot h
  next h0 =>
  split
  · next h => exact brace_whole k l w hl hnot h0 h
  next h1 =>
  cases hs : sgnL (colonL (l.drop (parN l))) (behindL (l.drop (parN l))) with
  | none => exact brace_bad k l w hl hnot he h0 h1 hs
  | some x =>
    obtain ⟨op, t⟩ := x
    cases hR : (rdC true (withinW k op) t).word with
    | err x =>
      simp only [hR]
      exact brace_err hW k l w hl hnot he hk hlN h0 h1 op t hs x hR
    | ok ps =>
      simp only [hR]
      exact brace_ok hW k l w hl hnot he hk hlN h0 h1 op t hs ps hR

end Go.Proofs.YtodcfgbcigjjfaaDoor

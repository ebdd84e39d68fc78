/-
  Package word's isBracket, run, piece, operation.
-/
import Derived.Test.YtodcfgbcigjjfaaDoorWSmall
import Derived.Test.YtodcfgbcigjjfaaDoorLMem
import Derived.Test.YtodcfgbcigjjfaaDoorNZ
namespace Go.Proofs.YtodcfgbcigjjfaaDoor
open Go.RowKit

theorem bcell {W w1 : World} (hb : Below W.heap.size W w1) : (∀ b o, b < W.heap.size → w1.cell? ⟨b, o, none⟩ = W.cell? ⟨b, o, none⟩) ∧ (∀ b o, b < W.heap.size → w1.frozen? ⟨b, o, none⟩ = W.frozen? ⟨b, o, none⟩) :=
  ⟨fun b o h => hb.cell (p := ⟨b, o, none⟩) h, fun b o h => hb.frozen (p := ⟨b, o, none⟩) h⟩
theorem thg_le {f : Nat} {c : UInt8} {l r : List UInt8} {wh d : Nat} (h : thg (f + 1) (c :: l) wh d = .ok r) : r.length ≤ l.length := by
  have := thg_len f c l wh d
  rw [h] at this
  exact this
theorem hasP_40 (l : List UInt8) : Lib.hasPrefix l [40] = (l.head? == some 40) := by
  cases l with
  | nil => rfl
  | cons c r => rw [hasP_one]; simp [Bool.beq_eq_decide_eq]
theorem cat36 (s : ByteArray) : ((⟨#[36]⟩ : ByteArray) ++ s).data.toList = 36 :: s.data.toList := by simp [ByteArray.data_append]
theorem cat36_size (s : ByteArray) : ((⟨#[36]⟩ : ByteArray) ++ s).size = s.size + 1 := by
  rw [ByteArray.size_append]
  show 1 + s.size = _
  omega

def pcOf (n : Nat) : Rs → Int × Int × Int
  | .ok r => (((n - r.length : Nat) : Int), 0, 0)
  | .err e m => (0, ((n - m.length : Nat) : Int), e)
theorem pieceS_of (s : ByteArray) (q : Bool) (h : 0 < s.size) : pieceS s 0 q = pcOf s.size (thg (3 * s.size + 3) s.data.toList (if q then 1 else 0) 0) := by
  unfold pieceS
  rw [if_neg (by omega)]
  simp only [Int.toNat_zero, List.drop_zero]
  cases thg (3 * s.size + 3) s.data.toList (if q then 1 else 0) 0 <;> rfl
set_option maxRecDepth 20000 in
set_option maxHeartbeats 4000000 in
theorem bracket_any (s : ByteArray) (w : World) (hs : s.size ≤ 50000) : Calls Tryd.prog 86 #[.string s] w fun e w' => e = .returned (.bool (brkB s.data.toList)) ∧ Below w.heap.size w w' := by
  have hb : brkB s.data.toList = ((s.data.toList.head? == some 40) && okNil (thg (3 * (s.size + 1) + 3) (36 :: s.data.toList) 0 0)) := by unfold brkB; rw [data_len]
  rcases Bool.eq_false_or_eq_true (s.data.toList.head? == some 40) with h4 | h4
  · have HH : Hid (∀ W, Calls Tryd.prog 99 #[.string s, .string ⟨#[40]⟩] W fun e w' => e = .returned (.bool true) ∧ w' = W) := hide (fun W => by
      have := Tryd.strings_HasPrefix s ⟨#[40]⟩ W
      rwa [show Lib.hasPrefix s.data.toList (⟨#[40]⟩ : ByteArray).data.toList = true from (hasP_40 _).trans h4] at this)
    obtain ⟨T, hT⟩ : ∃ x, x = thg (3 * (s.size + 1) + 3) (36 :: s.data.toList) 0 0 := ⟨_, rfl⟩
    have hnz : NZ T := by rw [hT]; exact (c_nz _).2.2 _ _ _
    have hle : ∀ r, T = .ok r → r.length ≤ s.size := fun r e => by
      rw [hT] at e
      have := thg_le e
      rwa [data_len] at this
    have hp : pieceS (⟨#[36]⟩ ++ s) 0 false = pcOf (s.size + 1) T := by
      rw [hT, pieceS_of _ _ (by rw [cat36_size]; omega), cat36_size, cat36]
      rfl
    have hsz : (⟨#[36]⟩ ++ s : ByteArray).size = s.size + 1 := cat36_size s
    have HP : Hid (∀ W, Calls Tryd.prog 67 #[.string (⟨#[36]⟩ ++ s), .int .i64 0, .bool false] W fun e w' => e = .returned (.tuple #[.int .i64 (pieceS (⟨#[36]⟩ ++ s) 0 false).1, .int .i64 (pieceS (⟨#[36]⟩ ++ s) 0 false).2.1, .int .i64 (pieceS (⟨#[36]⟩ ++ s) 0 false).2.2]) ∧ Below W.heap.size W w') := hide (fun W => piece_any _ 0 false W (by rw [hsz]; omega))
    rw [hp] at HP
    rw [hb, h4, ← hT]
    clear hb h4 hp hT
    rcases T with r | ⟨e, m⟩
    · have hr := hle r rfl
      obtain ⟨z, hz⟩ : ∃ z : Nat, z = s.size + 1 - r.length := ⟨_, rfl⟩
      simp only [pcOf, ← hz] at HP
      have hzz : ((z : Int) == (s.size : Int) + 1) = okNil (.ok r) := by
        cases r with
        | nil => simp at hz; simp [hz, okNil]
        | cons c r => simp at hz hr; simp [okNil]; omega
      rw [← hzz]
      clear hzz hz hle hnz hr
      go_enter Tryd.func86, Tryd.ntmps86
      go_wp2_with fail
      refine (unhide HH _).mono ?_
      rintro en w1 ⟨rfl, rfl⟩
      go_wp2_with fail
      refine (unhide HP _).mono ?_
      rintro en w1 ⟨rfl, b1⟩
      go_wp2
      go_ret
      exact ⟨ret_bool (by simp), b1⟩
    · have he : e ≠ 0 := hnz
      have he1 : (e == 0) = false := by simpa using he
      obtain ⟨z, hz⟩ : ∃ z : Nat, z = s.size + 1 - m.length := ⟨_, rfl⟩
      simp only [pcOf, ← hz] at HP
      clear hz hle hnz
      go_enter Tryd.func86, Tryd.ntmps86
      go_wp2_with fail
      refine (unhide HH _).mono ?_
      rintro en w1 ⟨rfl, rfl⟩
      go_wp2_with fail
      refine (unhide HP _).mono ?_
      rintro en w1 ⟨rfl, b1⟩
      go_wp2
      go_ret
      exact ⟨ret_bool rfl, b1⟩
  · have HH : Hid (∀ W, Calls Tryd.prog 99 #[.string s, .string ⟨#[40]⟩] W fun e w' => e = .returned (.bool false) ∧ w' = W) := hide (fun W => by
      have := Tryd.strings_HasPrefix s ⟨#[40]⟩ W
      rwa [show Lib.hasPrefix s.data.toList (⟨#[40]⟩ : ByteArray).data.toList = false from (hasP_40 _).trans h4] at this)
    rw [hb, h4]
    clear hb h4
    go_enter Tryd.func86, Tryd.ntmps86
    go_wp2_with fail
    refine (unhide HH _).mono ?_
    rintro en w1 ⟨rfl, rfl⟩
    go_wp2
    go_ret
    exact ⟨rfl, Below.refl _ _⟩

/-- A part's value. -/
def partV (p : Prt) (v : Value) : Value := .agg #[.int .i64 p.kind, .string (BA p.text), .bool p.quote, .int .i64 p.op, .bool p.colon, v]
theorem results_part {fn : Func} {t : Tmp} (h : fn.results = #[.cell t 35]) (tmps : Array Value) (w : World) (b : Nat) (a0 a1 a2 a3 a4 a5 : Value) (ht : tmps.getD t undef = .pointer (some ⟨b, 0, none⟩)) (hb : Blk w b 35 #[a0, a1, a2, a3, a4, a5]) :
    (results fn tmps).run Tryd.prog w = .ok (.agg #[a0, a1, a2, a3, a4, a5]) w := by
  have ht' : tmps[t]?.getD undef = .pointer (some ⟨b, 0, none⟩) := by simpa using ht
  have h0 := hb.cell 0 (v := a0) rfl
  have h1 := hb.cell 1 (v := a1) rfl
  have h2 := hb.cell 2 (v := a2) rfl
  have h3 := hb.cell 3 (v := a3) rfl
  have h4 := hb.cell 4 (v := a4) rfl
  have h5 := hb.cell 5 (v := a5) rfl
  simp [results, h, ht', go_sem, h0, h1, h2, h3, h4, h5]
theorem results_part2 {fn : Func} {t u : Tmp} (h : fn.results = #[.cell t 35, .tmp u]) (tmps : Array Value) (w : World) (b : Nat) (a0 a1 a2 a3 a4 a5 x : Value) (ht : tmps.getD t undef = .pointer (some ⟨b, 0, none⟩)) (hu : tmps.getD u undef = x) (hb : Blk w b 35 #[a0, a1, a2, a3, a4, a5]) :
    (results fn tmps).run Tryd.prog w = .ok (.tuple #[.agg #[a0, a1, a2, a3, a4, a5], x]) w := by
  have ht' : tmps[t]?.getD undef = .pointer (some ⟨b, 0, none⟩) := by simpa using ht
  have hu' : tmps[u]?.getD undef = x := by simpa using hu
  have h0 := hb.cell 0 (v := a0) rfl
  have h1 := hb.cell 1 (v := a1) rfl
  have h2 := hb.cell 2 (v := a2) rfl
  have h3 := hb.cell 3 (v := a3) rfl
  have h4 := hb.cell 4 (v := a4) rfl
  have h5 := hb.cell 5 (v := a5) rfl
  simp [results, h, ht', hu', go_sem, h0, h1, h2, h3, h4, h5]
/-- A new part's block behind a store of all its cells. -/
theorem blk_T6 {w : World} {b : Nat} {z0 z1 z2 z3 z4 z5 : Value} (h : Blk w b 35 #[z0, z1, z2, z3, z4, z5]) (x0 x1 x2 x3 x4 x5 : Value) : Blk (T6 w b 0 x0 x1 x2 x3 x4 x5) b 35 #[x0, x1, x2, x3, x4, x5] := by
  have := (((((h.set 0 x0).set 1 x1).set 2 x2).set 3 x3).set 4 x4).set 5 x5
  unfold T6
  simpa using this
theorem brk_len {l : List UInt8} (h : brkB l = true) : 2 ≤ l.length := by
  unfold brkB at h
  simp only [Bool.and_eq_true, beq_iff_eq] at h
  match l, h with
  | [], h => simp at h
  | [c], h =>
    obtain ⟨h1, h2⟩ := h
    simp at h1
    subst h1
    have h3 : okNil (thg (3 * ([40].length + 1) + 3) (36 :: [40]) 0 0) = false := by kernel_rfl
    exact Bool.noConfusion (h2.symm.trans h3)
  | _ :: _ :: _, _ => simp
theorem ext_mid (s : ByteArray) : s.extract 1 (s.size - 1) = BA ((s.data.toList.drop 1).dropLast) := by
  unfold BA
  apply ByteArray.ext
  rw [ByteArray.data_extract]
  apply Array.ext'
  rw [List.dropLast_eq_take]
  simp
set_option maxRecDepth 20000 in
set_option maxHeartbeats 4000000 in
theorem run_any (s : ByteArray) (w : World) (hs : s.size ≤ 50000) : Calls Tryd.prog 72 #[.string s] w fun e w' => e = .returned (partV (runP s.data.toList) (.slice none 0 0)) ∧ Below w.heap.size w w' := by
  have HB := hide (fun W => bracket_any s W hs)
  unfold runP
  rcases Bool.eq_false_or_eq_true (brkB s.data.toList) with hb | hb
  · have hl := brk_len hb
    rw [data_len] at hl
    rw [hb] at HB ⊢
    rw [if_pos rfl]
    obtain ⟨n, hn⟩ : ∃ n, s.size = n + 1 := ⟨s.size - 1, by omega⟩
    have he := ext_mid s
    rw [hn, Nat.add_sub_cancel] at he
    have HE := hide he
    have hn2 : (1 : Int) ≤ (n : Int) := by omega
    have hn1 : IntKind.i64.wrap ((s.size : Int) - 1) = (n : Int) := by rw [IntKind.wrap_i64]; omega
    clear he hb hl
    go_enter Tryd.func72, Tryd.ntmps72
    go_wp2_with fail
    refine (unhide HB _).mono ?_
    rintro en w1 ⟨rfl, b1⟩
    have HB1 := hide (((Below.refl _ w).alloc (Nat.le_refl _) _).trans (b1.mono (by simp)))
    have HZ := hide (Blk.below (Blk.new w 35 #[.int .i64 0, .string ⟨#[]⟩, .bool false, .int .i64 0, .bool false, .slice none 0 0]) b1 (by simp))
    obtain ⟨hc, hf⟩ := bcell b1
    have hz : w.heap.size < w1.heap.size := by have := b1.size; simp at this; omega
    clear b1
    go_wp2
    refine bodyPost_ret (v := partV (.mk 4 (s.extract 1 n).data.toList false 0 false []) (.slice none 0 0)) (results_part rfl _ _ w.heap.size _ _ _ _ _ _ rfl (blk_T6 (unhide HZ) (.int .i64 4) (.string (s.extract 1 n)) (.bool false) (.int .i64 0) (.bool false) (.slice none 0 0))) rfl ⟨by rw [unhide HE]; rfl, ?_⟩
    exact (unhide HB1).trans ((T6_grown w1 w.heap.size 0 _ _ _ _ _ _).below (unhide HB1).size (fun k e => by omega))
  · rw [hb] at HB ⊢
    rw [if_neg (by decide)]
    clear hb
    go_enter Tryd.func72, Tryd.ntmps72
    go_wp2_with fail
    refine (unhide HB _).mono ?_
    rintro en w1 ⟨rfl, b1⟩
    have HB1 := hide (((Below.refl _ w).alloc (Nat.le_refl _) _).trans (b1.mono (by simp)))
    have HZ := hide (Blk.below (Blk.new w 35 #[.int .i64 0, .string ⟨#[]⟩, .bool false, .int .i64 0, .bool false, .slice none 0 0]) b1 (by simp))
    obtain ⟨hc, hf⟩ := bcell b1
    have hz : w.heap.size < w1.heap.size := by have := b1.size; simp at this; omega
    clear b1
    go_wp2
    refine bodyPost_ret (v := partV (.mk 3 s.data.toList false 0 false []) (.slice none 0 0)) (results_part rfl _ _ w.heap.size _ _ _ _ _ _ rfl (blk_T6 (unhide HZ) (.int .i64 3) (.string s) (.bool false) (.int .i64 0) (.bool false) (.slice none 0 0))) rfl ⟨rfl, ?_⟩
    exact (unhide HB1).trans ((T6_grown w1 w.heap.size 0 _ _ _ _ _ _).below (unhide HB1).size (fun k e => by omega))

end Go.Proofs.YtodcfgbcigjjfaaDoor

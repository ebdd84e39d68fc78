/-
  The chapter's examples ('awake'): it answers true and writes nothing that was there.
-/
import Derived.Test.YtegaonlpbcpobaaParse
import Derived.Test.YtegaonlpbcpobaaBackI
namespace Go.Proofs.Ytegaonlpbcpobaa
open Go.RowKit

theorem TokRow.mono {n m : Nat} {W : World} {v : Value} {ts : List Tok} (h : TokRow n W v ts) (hn : n ≤ m) : TokRow m W v ts := by
  obtain ⟨a, cap, rfl, hc, hm, h⟩ := h
  refine ⟨a, cap, rfl, hc, hm, ?_⟩
  rcases h with h | ⟨b, o, rfl, hlt, hcell⟩
  · exact .inl h
  · refine .inr ⟨b, o, rfl, by omega, fun j hj => ?_⟩
    obtain ⟨rv, ht⟩ := hcell j hj
    exact ⟨rv, ht.toTokCells, ht.row.mono hn⟩
/-- A row of tokens that lies in the world. -/
def TR (W : World) (v : Value) (ts : List Tok) : Prop := TokRow W.heap.size W v ts
theorem TR.next {W W' : World} {v : Value} {ts : List Tok} (h : TR W v ts) (hb : Below W.heap.size W W') : TR W' v ts := (TokRow.below h hb).mono hb.size

theorem pr (s : ByteArray) (ts : List Tok) (w : World) (hs : s.size ≤ 100000) (h : parseL s [] = ts) :
    Calls Try.prog 11 #[.string s, .slice none 0 0] w fun e w' => ∃ v', e = .returned v' ∧ TR w' v' ts ∧ Below w.heap.size w w' := by
  have := parse_any 0 (.slice none 0 0) s [] w hs ⟨none, 0, rfl, by simp, .inl rfl⟩ (Nat.zero_le _)
  rw [h] at this
  exact this
theorem pr1 (s : ByteArray) (ts : List Tok) (w : World) (hs : s.size ≤ 100000) (h : parseL s [true] = ts) :
    Calls Try.prog 11 #[.string s, .slice (some ⟨w.heap.size, 0, none⟩) 1 1] (w.alloc (.cells #[.bool true] 4)) fun e w' => ∃ v', e = .returned v' ∧ TR w' v' ts ∧ Below w.heap.size w w' := by
  have := parse_any (w.heap.size + 1) (.slice (some ⟨w.heap.size, 0, none⟩) 1 1) s [true] (w.alloc (.cells #[.bool true] 4)) hs ⟨_, 1, rfl, by simp, .inr ⟨w.heap.size, 0, rfl, by omega, fun j hj => by
    match j, hj with
    | 0, _ => go_simp⟩⟩ (by simp)
  rw [h] at this
  refine this.mono ?_
  rintro e w' ⟨v', h1, h2, h3⟩
  exact ⟨v', h1, h2, ((Below.refl _ w).alloc (Nat.le_refl _) _).trans (h3.mono (by simp))⟩
theorem mt (s : ByteArray) (ts : List Tok) (b : Bool) (v : Value) (w : World) (hs : s.size ≤ 100000) (ht : TR w v ts) (h : matchB s ts = b) :
    Calls Try.prog 15 #[v, .string s] w fun e w' => e = .returned (.bool b) ∧ Below w.heap.size w w' := by
  have := match_any w.heap.size v s ts w hs ht (Nat.le_refl _)
  rw [h] at this
  exact this
theorem sp (ts : List Tok) (b : Bool) (v : Value) (w : World) (ht : TR w v ts) (h : specialB ts = b) :
    Calls Try.prog 17 #[v] w fun e w' => e = .returned (.bool b) ∧ Below w.heap.size w w' := by
  have := special_any w.heap.size v ts w ht (Nat.le_refl _)
  rw [h] at this
  exact this
theorem fr (s : ByteArray) (ts : List Tok) (l : Bool) (k : Int) (v : Value) (w : World) (hs : s.size ≤ 100000) (ht : TR w v ts) (h : frontI s ts l = k) :
    Calls Try.prog 19 #[v, .string s, .bool l] w fun e w' => e = .returned (.int .i64 k) ∧ Below w.heap.size w w' := by
  have := front_any w.heap.size v s ts l w hs ht (Nat.le_refl _)
  rw [h] at this
  exact this
theorem bk (s : ByteArray) (ts : List Tok) (l : Bool) (k : Int) (v : Value) (w : World) (hs : s.size ≤ 100000) (hl : ts.length ≤ 1000) (ht : TR w v ts) (h : backI s ts l = k) :
    Calls Try.prog 21 #[v, .string s, .bool l] w fun e w' => e = .returned (.int .i64 k) ∧ Below w.heap.size w w' := by
  have := back_any w.heap.size v s ts l w hs hl ht (Nat.le_refl _)
  rw [h] at this
  exact this

def exL : List Tok := [⟨1, 97, false, []⟩, ⟨3, 0, false, []⟩, ⟨1, 99, false, []⟩]
def exM : List Tok := [⟨4, 0, true, [(97, 99)]⟩, ⟨2, 0, false, []⟩]
def exN : List Tok := [⟨1, 42, false, []⟩]
def exA : List Tok := [⟨1, 97, false, []⟩, ⟨3, 0, false, []⟩]
def exB : List Tok := [⟨3, 0, false, []⟩, ⟨1, 98, false, []⟩]
theorem x1 : parseL ⟨#[97, 42, 99]⟩ [] = exL := by kernel_rfl
theorem x2 : parseL ⟨#[91, 33, 97, 45, 99, 93, 63]⟩ [] = exM := by kernel_rfl
theorem x3 : parseL ⟨#[42]⟩ [true] = exN := by kernel_rfl
theorem x4 : matchB ⟨#[97, 98, 98, 99]⟩ exL = true := by kernel_rfl
theorem x5 : matchB ⟨#[97, 98]⟩ exL = false := by kernel_rfl
theorem x6 : matchB ⟨#[100, 120]⟩ exM = true := by kernel_rfl
theorem x7 : matchB ⟨#[97, 120]⟩ exM = false := by kernel_rfl
theorem x8 : matchB ⟨#[42]⟩ exN = true := by kernel_rfl
theorem x9 : matchB ⟨#[97]⟩ exN = false := by kernel_rfl
theorem x10 : specialB exM = true := by kernel_rfl
theorem x11 : specialB exN = false := by kernel_rfl
theorem x12 : parseL ⟨#[97, 42]⟩ [] = exA := by kernel_rfl
theorem x13 : frontI ⟨#[97, 97, 98]⟩ exA true = 3 := by kernel_rfl
theorem x14 : parseL ⟨#[42, 98]⟩ [] = exB := by kernel_rfl
theorem x15 : backI ⟨#[97, 97, 98]⟩ exB false = 1 := by kernel_rfl

set_option maxHeartbeats 4000000 in
theorem awake_any (w : World) : Calls Try.prog 13 #[] w fun e w' => e = .returned (.bool true) ∧ Below w.heap.size w w' := by
  go_enter Try.func13, Try.ntmps13
  go_wp2_with fail
  refine (pr _ exL _ (by decide) x1).mono ?_
  rintro e w1 ⟨vL, rfl, tL, b1⟩
  have TL := hide tL
  obtain ⟨aL, cL, rfl, _⟩ := TokRow.shape tL
  clear tL
  have HB := hide b1
  clear b1
  go_wp2_with fail
  refine (pr _ exM _ (by decide) x2).mono ?_
  rintro e w2 ⟨vM, rfl, tM, b2⟩
  have TM := hide tM
  obtain ⟨aM, cM, rfl, _⟩ := TokRow.shape tM
  clear tM
  have TL := hide ((unhide TL).next b2)
  have HB := hide ((unhide HB).trans (b2.mono (unhide HB).size))
  clear b2
  go_wp2_with fail
  refine (pr1 _ exN _ (by decide) x3).mono ?_
  rintro e w3 ⟨vN, rfl, tN, b3⟩
  have TN := hide tN
  obtain ⟨aN, cN, rfl, _⟩ := TokRow.shape tN
  clear tN
  have TL := hide ((unhide TL).next b3)
  have TM := hide ((unhide TM).next b3)
  have HB := hide ((unhide HB).trans (b3.mono (unhide HB).size))
  clear b3
  go_wp2_with fail
  refine (mt _ exL true _ _ (by decide) (unhide TL) x4).mono ?_
  rintro e w4 ⟨rfl, b4⟩
  have TL := hide ((unhide TL).next b4)
  have TM := hide ((unhide TM).next b4)
  have TN := hide ((unhide TN).next b4)
  have HB := hide ((unhide HB).trans (b4.mono (unhide HB).size))
  clear b4
  go_wp2_with fail
  refine (mt _ exL false _ _ (by decide) (unhide TL) x5).mono ?_
  rintro e w5 ⟨rfl, b5⟩
  have TL := hide ((unhide TL).next b5)
  have TM := hide ((unhide TM).next b5)
  have TN := hide ((unhide TN).next b5)
  have HB := hide ((unhide HB).trans (b5.mono (unhide HB).size))
  clear b5
  go_wp2_with fail
  refine (mt _ exM true _ _ (by decide) (unhide TM) x6).mono ?_
  rintro e w6 ⟨rfl, b6⟩
  have TL := hide ((unhide TL).next b6)
  have TM := hide ((unhide TM).next b6)
  have TN := hide ((unhide TN).next b6)
  have HB := hide ((unhide HB).trans (b6.mono (unhide HB).size))
  clear b6
  go_wp2_with fail
  refine (mt _ exM false _ _ (by decide) (unhide TM) x7).mono ?_
  rintro e w7 ⟨rfl, b7⟩
  have TL := hide ((unhide TL).next b7)
  have TM := hide ((unhide TM).next b7)
  have TN := hide ((unhide TN).next b7)
  have HB := hide ((unhide HB).trans (b7.mono (unhide HB).size))
  clear b7
  go_wp2_with fail
  refine (mt _ exN true _ _ (by decide) (unhide TN) x8).mono ?_
  rintro e w8 ⟨rfl, b8⟩
  have TL := hide ((unhide TL).next b8)
  have TM := hide ((unhide TM).next b8)
  have TN := hide ((unhide TN).next b8)
  have HB := hide ((unhide HB).trans (b8.mono (unhide HB).size))
  clear b8
  go_wp2_with fail
  refine (mt _ exN false _ _ (by decide) (unhide TN) x9).mono ?_
  rintro e w9 ⟨rfl, b9⟩
  have TL := hide ((unhide TL).next b9)
  have TM := hide ((unhide TM).next b9)
  have TN := hide ((unhide TN).next b9)
  have HB := hide ((unhide HB).trans (b9.mono (unhide HB).size))
  clear b9
  go_wp2_with fail
  refine (sp exM true _ _ (unhide TM) x10).mono ?_
  rintro e w10 ⟨rfl, b10⟩
  have TL := hide ((unhide TL).next b10)
  have TM := hide ((unhide TM).next b10)
  have TN := hide ((unhide TN).next b10)
  have HB := hide ((unhide HB).trans (b10.mono (unhide HB).size))
  clear b10
  go_wp2_with fail
  refine (sp exN false _ _ (unhide TN) x11).mono ?_
  rintro e w11 ⟨rfl, b11⟩
  have TL := hide ((unhide TL).next b11)
  have TM := hide ((unhide TM).next b11)
  have TN := hide ((unhide TN).next b11)
  have HB := hide ((unhide HB).trans (b11.mono (unhide HB).size))
  clear b11
  go_wp2_with fail
  refine (pr _ exA _ (by decide) x12).mono ?_
  rintro e w12 ⟨vA, rfl, tA, b12⟩
  have TA := hide tA
  obtain ⟨aA, cA, rfl, _⟩ := TokRow.shape tA
  clear tA
  have TL := hide ((unhide TL).next b12)
  have TM := hide ((unhide TM).next b12)
  have TN := hide ((unhide TN).next b12)
  have HB := hide ((unhide HB).trans (b12.mono (unhide HB).size))
  clear b12
  go_wp2_with fail
  refine (fr _ exA true 3 _ _ (by decide) (unhide TA) x13).mono ?_
  rintro e w13 ⟨rfl, b13⟩
  have TL := hide ((unhide TL).next b13)
  have TM := hide ((unhide TM).next b13)
  have TN := hide ((unhide TN).next b13)
  have TA := hide ((unhide TA).next b13)
  have HB := hide ((unhide HB).trans (b13.mono (unhide HB).size))
  clear b13
  go_wp2_with fail
  refine (pr _ exB _ (by decide) x14).mono ?_
  rintro e w14 ⟨vB, rfl, tB, b14⟩
  have TB := hide tB
  obtain ⟨aB, cB, rfl, _⟩ := TokRow.shape tB
  clear tB
  have TL := hide ((unhide TL).next b14)
  have TM := hide ((unhide TM).next b14)
  have TN := hide ((unhide TN).next b14)
  have TA := hide ((unhide TA).next b14)
  have HB := hide ((unhide HB).trans (b14.mono (unhide HB).size))
  clear b14
  go_wp2_with fail
  refine (bk _ exB false 1 _ _ (by decide) (by decide) (unhide TB) x15).mono ?_
  rintro e w15 ⟨rfl, b15⟩
  have TL := hide ((unhide TL).next b15)
  have TM := hide ((unhide TM).next b15)
  have TN := hide ((unhide TN).next b15)
  have TA := hide ((unhide TA).next b15)
  have TB := hide ((unhide TB).next b15)
  have HB := hide ((unhide HB).trans (b15.mono (unhide HB).size))
  clear b15
  go_wp2_with fail
  go_ret
  exact ⟨rfl, unhide HB⟩

end Go.Proofs.Ytegaonlpbcpobaa

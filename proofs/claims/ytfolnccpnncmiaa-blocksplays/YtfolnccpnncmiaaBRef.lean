/-
  The document's store: how it lies in memory; is, Give, Read, Free, New, zeros.
-/
import Derived.Test.YtfolnccpnncmiaaBNew
import Derived.Test.YtfolnccpnncmiaaBFresh
namespace Go.Proofs.Ytfolnccpnncmiaa
open Go.RowKit

/-- The cells of the document's texts: place 0 is nobody's. -/
def Texts (l : BL) (cs : Array Value) : Prop := ∀ (i : Nat) (x : List UInt8), l[i]? = some x → cs[i + 1]? = some (Value.string (BA x))
structure RBAt (w : World) (q r : Nat) (l : BL) : Prop where
  wf : Wf l
  lies : ∃ c cs, Blk w q 55 #[.slice (some ⟨r, 0, none⟩) (l.length + 1) c] ∧ Blk w r 9 cs ∧ l.length + 1 ≤ c ∧ cs.size = c ∧ c ≤ maxLen ∧ cs[0]? = some (.string (BA [])) ∧ Texts l cs
theorem RBAt.grownS {w w' : World} {q r : Nat} {l : BL} {S : Nat → Prop} (H : RBAt w q r l) (hg : GrownS w w' S) (hq : ¬ S q) (hr : ¬ S r) : RBAt w' q r l := by
  obtain ⟨hw, c, cs, h1, h2, h3⟩ := H
  exact ⟨hw, c, cs, h1.grownS hg hq, h2.grownS hg hr, h3⟩
theorem RBAt.lt {w : World} {q r : Nat} {l : BL} (H : RBAt w q r l) : q < w.heap.size ∧ r < w.heap.size := by
  obtain ⟨hw, c, cs, h1, h2, h3⟩ := H
  exact ⟨h1.lt, h2.lt⟩
theorem RBAt.ne {w : World} {q r : Nat} {l : BL} (H : RBAt w q r l) : q ≠ r := by
  obtain ⟨hw, c, cs, h1, h2, h3⟩ := H
  exact blk_ne h1 h2 (by decide)
theorem Texts.set {l : BL} {cs : Array Value} (h : Texts l cs) {i : Nat} {x : List UInt8} (hi : i < l.length) (hs : i + 1 < cs.size) : Texts (l.set i x) (cs.setIfInBounds (i + 1) (.string (BA x))) := by
  intro k y hk
  rw [List.getElem?_set] at hk
  by_cases e : i = k
  · subst e
    rw [if_pos rfl, if_pos hi] at hk
    cases hk
    rw [Array.getElem?_setIfInBounds_self_of_lt hs]
  · rw [if_neg e] at hk
    rw [Array.getElem?_setIfInBounds_ne (by omega)]
    exact h k y hk
theorem setb_grown (w : World) (b j : Nat) (v : Value) : GrownS w (w.setCell ⟨b, j, none⟩ v) (fun k => k = b) := GrownS.of (grown_setCell w ⟨b, j, none⟩ v) (fun k e => by simpa using e)
theorem RBAt.set {w : World} {q r i : Nat} {l : BL} {y : List UInt8} (H : RBAt w q r l) (hi : i < l.length) (hy : y = [] ∨ y.length = 64) : RBAt (w.setCell ⟨r, i + 1, none⟩ (.string (BA y))) q r (l.set i y) := by
  have hne := H.ne
  obtain ⟨hw, c, cs, h1, h2, h3, h4, h5, h6, h7⟩ := H
  refine ⟨hw.set _ hy, c, _, ?_, h2.set _ _, by rw [List.length_set]; exact h3, by simpa using h4, h5, by rw [Array.getElem?_setIfInBounds_ne (by omega)]; exact h6, h7.set hi (by omega)⟩
  rw [List.length_set]
  exact h1.grownS (setb_grown w r (i + 1) _) hne
theorem RBAt.below {w w' : World} {q r : Nat} {l : BL} (H : RBAt w q r l) (hb : Below w.heap.size w w') : RBAt w' q r l :=
  H.grownS (S := fun _ => False) (grownS_of_below hb) (fun e => e) (fun e => e)
theorem BA_eq_nil (x : List UInt8) : decide (BA x = ⟨#[]⟩) = x.isEmpty := by
  cases x with
  | nil => rfl
  | cons a b => rw [decide_eq_false (fun e => by have := congrArg ByteArray.size e; rw [BA_size] at this; cases this)]; rfl

set_option maxRecDepth 20000 in
set_option maxHeartbeats 1000000 in
theorem ris_any (w : World) (q r : Nat) (l : BL) (b : Int) (H : RBAt w q r l) (hb : -9223372036854775808 ≤ b ∧ b ≤ 9223372036854775807) : Calls Try.prog 26 #[.pointer (some ⟨q, 0, none⟩), .int .i64 b] w fun e w' => e = .returned (.bool (tkn l b)) ∧ w' = w := by
  obtain ⟨hw, c, cs, k1, k2, h3, h4, h5, h6, hT⟩ := H
  have q0 := k1.cell 0 rfl
  have hmx := hw.max
  obtain ⟨n, hn⟩ : ∃ n, n = l.length := ⟨_, rfl⟩
  rw [← hn] at q0 h3 hmx
  have HN := hide hn
  clear hn
  by_cases hlt : b < 1
  · have hv : tkn l b = false := by
      unfold tkn
      rw [show decide (1 ≤ b) = false by simpa using hlt]
      rfl
    rw [hv]
    clear hv hT k1 k2
    go_enter Try.func26, Try.ntmps26
    go_wp2
    go_ret
    exact ⟨rfl, rfl⟩
  · by_cases hgt : (n : Int) < b
    · have hv : tkn l b = false := by
        unfold tkn
        rw [← unhide HN, show decide (b ≤ (n : Int)) = false by simpa using hgt]
        simp
      rw [hv]
      have hgt2 : ¬ b < (n : Int) + 1 := by omega
      clear hv hT k1 k2
      go_enter Try.func26, Try.ntmps26
      go_wp2
      go_ret
      exact ⟨rfl, rfl⟩
    · obtain ⟨i, rfl⟩ : ∃ i : Nat, b = (i : Int) + 1 := ⟨(b - 1).toNat, by omega⟩
      have hi : i < l.length := by have := unhide HN; omega
      obtain ⟨x, hx⟩ : ∃ x, l[i]? = some x := ⟨_, List.getElem?_eq_getElem hi⟩
      rw [tkn_of hx]
      have c2 := k2.cell _ (hT i x hx)
      have hi1 : (i : Int) + 1 < (n : Int) + 1 := by have := unhide HN; omega
      have HE := hide (BA_eq_nil x)
      obtain ⟨s, hs⟩ : ∃ s, s = BA x := ⟨_, rfl⟩
      rw [← hs] at c2 HE
      have HSL : Hid (s.toList.isEmpty = x.isEmpty) := hide (by rw [hs, ByteArray.toList_eq]; rfl)
      obtain ⟨bb, hbb⟩ : ∃ bb, bb = x.isEmpty := ⟨_, rfl⟩
      rw [← hbb] at HE HSL ⊢
      clear hT k1 k2 hx hi hs hbb
      cases bb with
      | true =>
        have hs : s = ⟨#[]⟩ := of_decide_eq_true (unhide HE)
        rw [hs] at c2
        clear HE hs
        go_enter Try.func26, Try.ntmps26
        go_wp2
        go_ret
        exact ⟨rfl, rfl⟩
      | false =>
        have hs : s.toList.isEmpty = false := (unhide HSL)
        clear HE
        go_enter Try.func26, Try.ntmps26
        go_wp2
        go_ret
        exact ⟨rfl, rfl⟩

set_option maxRecDepth 20000 in
set_option maxHeartbeats 1000000 in
theorem rgive_any (w : World) (q r : Nat) (l : BL) (b : Int) (H : RBAt w q r l) (hb : -9223372036854775808 ≤ b ∧ b ≤ 9223372036854775807) : Calls Try.prog 14 #[.pointer (some ⟨q, 0, none⟩), .int .i64 b] w fun e w' => e = .returned (.int .i64 (giveE l b)) ∧ RBAt w' q r (giveL l b) ∧ GrownS w w' (fun k => k = r) := by
  have HH := hide H
  have HF := hide (ris_any w q r l b H hb)
  cases ht : tkn l b with
  | false =>
    rw [ht] at HF
    rw [show giveE l b = 23 by unfold giveE; rw [ht]; rfl, show giveL l b = l by unfold giveL; rw [ht]; rfl]
    clear ht H
    go_enter Try.func14, Try.ntmps14
    go_wp2_with fail
    refine (unhide HF).mono ?_
    rintro e w1 ⟨rfl, hw1⟩
    rw [show w1 = w from hw1]
    clear hw1
    go_wp2
    go_ret
    exact ⟨rfl, unhide HH, grownS_of_below (Below.refl _ _)⟩
  | true =>
    obtain ⟨i, x, rfl, hi, hx, hne, e1, e2⟩ := tkn_some ht
    rw [ht] at HF
    rw [show giveE l ((i : Int) + 1) = 0 by unfold giveE; rw [ht]; rfl, show giveL l ((i : Int) + 1) = l.set i [] by unfold giveL; rw [ht, e1]; rfl]
    have HR : Hid (RBAt (w.setCell ⟨r, i + 1, none⟩ (.string ⟨#[]⟩)) q r (l.set i []) ∧ GrownS w (w.setCell ⟨r, i + 1, none⟩ (.string ⟨#[]⟩)) (fun k => k = r)) := hide ⟨H.set (y := []) hi (.inl rfl), setb_grown _ _ _ _⟩
    obtain ⟨hw, c, cs, k1, k2, h3, h4, h5, h6, hT⟩ := H
    have q0 := k1.cell 0 rfl
    have c2 := k2.cell _ (hT i x hx)
    have f2 := k2.frozen (i + 1)
    obtain ⟨n, hn⟩ : ∃ n, n = l.length := ⟨_, rfl⟩
    rw [← hn] at q0 hi
    have hi1 : (i : Int) + 1 < (n : Int) + 1 := by omega
    clear ht e1 e2 hx hne hT k1 k2 HH hn h3
    go_enter Try.func14, Try.ntmps14
    go_wp2_with fail
    refine (unhide HF).mono ?_
    rintro e w1 ⟨rfl, hw1⟩
    rw [show w1 = w from hw1]
    clear hw1
    go_wp2
    go_ret
    exact ⟨rfl, unhide HR⟩

theorem inB_cases {a n : Int} (h : inB a n = false) : a < 0 ∨ (0 ≤ a ∧ n < 0) ∨ (0 ≤ a ∧ 0 ≤ n ∧ 64 < a) ∨ (0 ≤ a ∧ 0 ≤ n ∧ a ≤ 64 ∧ 64 - a < n) := by
  have := inB_no h
  omega
set_option maxRecDepth 20000 in
set_option maxHeartbeats 1000000 in
theorem rread_any (w : World) (q r : Nat) (l : BL) (b a n : Int) (H : RBAt w q r l) (hb : -9223372036854775808 ≤ b ∧ b ≤ 9223372036854775807) (ha : -9223372036854775808 ≤ a ∧ a ≤ 9223372036854775807) :
    Calls Try.prog 16 #[.pointer (some ⟨q, 0, none⟩), .int .i64 b, .int .i64 a, .int .i64 n] w fun e w' => e = .returned (.tuple #[.string (BA (readT l b a n)), .int .i64 (readE l b a n)]) ∧ w' = w := by
  have HF := hide (ris_any w q r l b H hb)
  cases ht : tkn l b with
  | false =>
    rw [ht] at HF
    rw [show readT l b a n = [] by unfold readT; rw [ht]; rfl, show readE l b a n = 23 by unfold readE; rw [ht]; rfl]
    clear ht H
    go_enter Try.func16, Try.ntmps16
    go_wp2_with fail
    refine (unhide HF).mono ?_
    rintro e w1 ⟨rfl, hw1⟩
    rw [show w1 = w from hw1]
    clear hw1
    go_wp2
    go_ret2
    exact ⟨rfl, rfl⟩
  | true =>
    obtain ⟨i, x, rfl, hi, hx, hne, e1, e2⟩ := tkn_some ht
    rw [ht] at HF
    cases hin : inB a n with
    | false =>
      rw [show readT l ((i : Int) + 1) a n = [] by unfold readT; rw [ht, hin]; rfl, show readE l ((i : Int) + 1) a n = 1 by unfold readE; rw [ht, hin]; rfl]
      have hc := inB_cases hin
      clear ht H hin e1 e2 hx
      rcases hc with h1 | ⟨h1, h2⟩ | ⟨h1, h2, h3⟩ | ⟨h1, h2, h3, h4⟩
      all_goals
        go_enter Try.func16, Try.ntmps16
        go_wp2_with fail
        refine (unhide HF).mono ?_
        rintro e w1 ⟨rfl, hw1⟩
        rw [show w1 = w from hw1]
        clear hw1
        go_wp2
        go_ret2
        exact ⟨rfl, rfl⟩
    | true =>
      obtain ⟨h1, h2, h3⟩ := inB_some hin
      obtain ⟨o, rfl⟩ : ∃ o : Nat, a = o := ⟨a.toNat, by omega⟩
      obtain ⟨k, rfl⟩ : ∃ k : Nat, n = k := ⟨n.toNat, by omega⟩
      have hlx := H.wf.len hx hne
      obtain ⟨hw, c, cs, k1, k2, h3', h4, h5, h6, hT⟩ := H
      have q0 := k1.cell 0 rfl
      have c2 := k2.cell _ (hT i x hx)
      rw [show readT l ((i : Int) + 1) o k = (x.drop o).take k by unfold readT; rw [ht, hin, e1, e2]; rfl, show readE l ((i : Int) + 1) o k = 0 by unfold readE; rw [ht, hin]; rfl]
      have hex : (BA x).extract o (o + k) = BA ((x.drop o).take k) := extract_take (BA x) o k
      obtain ⟨m, hm⟩ : ∃ m, m = l.length := ⟨_, rfl⟩
      rw [← hm] at q0 hi
      have hi1 : (i : Int) + 1 < (m : Int) + 1 := by omega
      have t1 : (o : Int) + (k : Int) ≤ 64 := by omega
      have t2 : ¬ (64 : Int) < (o : Int) := by omega
      have t3 : ¬ (64 : Int) - (o : Int) < (k : Int) := by omega
      clear ht hin e1 e2 hx hT k1 k2 hne h3 hm h3' h4
      go_enter Try.func16, Try.ntmps16
      go_wp2_with fail
      refine (unhide HF).mono ?_
      rintro e w1 ⟨rfl, hw1⟩
      rw [show w1 = w from hw1]
      clear hw1
      go_wp2
      go_ret2
      refine ⟨?_, rfl⟩
      rw [← hex]
      rfl

end Go.Proofs.Ytfolnccpnncmiaa

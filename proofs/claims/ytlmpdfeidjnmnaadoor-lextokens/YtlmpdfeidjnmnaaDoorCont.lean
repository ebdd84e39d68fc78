/-
  'strings.ContainsAny' with a backslash, a quote and double quotes, at any bytes: the whole.
-/
import Derived.Test.YtlmpdfeidjnmnaaDoorAny3
import Derived.Lib.OthersKept
namespace Go.Proofs.YtlmpdfeidjnmnaaDoor
open Go.RowKit

/-- The bytes of a rune that is no ASCII one are none either. -/
theorem decode_wide (s : ByteArray) (pos : Nat) (h : pos < s.size) (ha : 128 ≤ (s[pos]'h).toNat) : ∀ k, k < (Utf8.decode s pos).2 → ∃ hk : pos + k < s.size, 128 ≤ (s[pos + k]'hk).toNat := by
  have hn : ¬ (s[pos]'h).toNat < 128 := by omega
  have hget : ∀ k (hk : pos + k < s.size), s.get! (pos + k) = s[pos + k]'hk := fun k hk => by
    simp [ByteArray.get!, getElem!_pos, hk]
    rfl
  have h0 : ∃ hk : pos + 0 < s.size, 128 ≤ (s[pos + 0]'hk).toNat := ⟨h, ha⟩
  have hco : ∀ k, (decide (pos + k < s.size) && ((s.get! (pos + k)).toNat / 64 == 2)) = true → ∃ hk : pos + k < s.size, 128 ≤ (s[pos + k]'hk).toNat := by
    intro k hk
    rw [Bool.and_eq_true] at hk
    have h1 : pos + k < s.size := of_decide_eq_true hk.1
    refine ⟨h1, ?_⟩
    have h2 : (s.get! (pos + k)).toNat / 64 = 2 := by simpa using hk.2
    rw [hget k h1] at h2
    omega
  simp only [Utf8.decode, get_at s pos h, hn, if_false]
  split
  · next hc =>
    rw [Bool.and_eq_true] at hc
    split
    · intro k hk
      match k, hk with
      | 0, _ => exact h0
      | 1, _ => exact hco 1 hc.2
      | k + 2, hk => simp at hk; omega
    · intro k hk
      have : k = 0 := by simp at hk; exact hk
      subst this
      exact h0
  · split
    · next hc =>
      rw [Bool.and_eq_true, Bool.and_eq_true] at hc
      split
      · intro k hk
        match k, hk with
        | 0, _ => exact h0
        | 1, _ => exact hco 1 hc.1.2
        | 2, _ => exact hco 2 hc.2
        | k + 3, hk => simp at hk; omega
      · intro k hk
        have : k = 0 := by simp at hk; exact hk
        subst this
        exact h0
    · split
      · next hc =>
        rw [Bool.and_eq_true, Bool.and_eq_true, Bool.and_eq_true] at hc
        split
        · intro k hk
          match k, hk with
          | 0, _ => exact h0
          | 1, _ => exact hco 1 hc.1.1.2
          | 2, _ => exact hco 2 hc.1.2
          | 3, _ => exact hco 3 hc.2
          | k + 4, hk => simp at hk; omega
        · intro k hk
          have : k = 0 := by simp at hk; exact hk
          subst this
          exact h0
      · intro k hk
        have : k = 0 := by simp at hk; exact hk
        subst this
        exact h0

theorem three_high (x : UInt8) (h : 128 ≤ x.toNat) : ([92, 39, 34] : List UInt8).contains x = false := by
  have h1 : x ≠ 92 := fun e => by rw [e] at h; exact absurd h (by decide)
  have h2 : x ≠ 39 := fun e => by rw [e] at h; exact absurd h (by decide)
  have h3 : x ≠ 34 := fun e => by rw [e] at h; exact absurd h (by decide)
  simp [h1, h2, h3]
/-- No one of the bytes ahead, and none in a rune that is no ASCII one. -/
theorem noAny_wide {s : ByteArray} {pos : Nat} (h : pos < s.size) (ha : 128 ≤ (s[pos]'h).toNat) (hn : Lib.NoAny s.data.toList [92, 39, 34] pos) : Lib.NoAny s.data.toList [92, 39, 34] (pos + (Utf8.decode s pos).2) ∧ pos + (Utf8.decode s pos).2 ≤ s.size := by
  have hw := decode_wide s pos h ha
  constructor
  · intro j b hj hb
    rcases Nat.lt_or_ge j pos with h1 | h1
    · exact hn j b h1 hb
    · obtain ⟨hk, h128⟩ := hw (j - pos) (by omega)
      have e : pos + (j - pos) = j := by omega
      have hjs : j < s.size := by omega
      have : s.data.toList[j]? = some (s[j]'hjs) := Lib.data_getElem? s j hjs
      rw [this] at hb
      injection hb with hb
      refine three_high b ?_
      rw [← hb]
      simpa only [e] using h128
  · have h1 := (decode_high s pos h ha).2
    obtain ⟨hk, _⟩ := hw ((Utf8.decode s pos).2 - 1) (by omega)
    omega

def itPos (k : Nat) (w : World) : Nat := World.iterPos w k

set_option maxRecDepth 20000 in
set_option maxHeartbeats 8000000 in
theorem indexAny_any8 (s : ByteArray) (w : World) (h8 : s.size ≤ 8) :
    Calls Tryd.prog 75 #[.string s, .string ⟨#[92, 39, 34]⟩] w fun e w' => e = .returned (.int .i64 (Lib.indexAny s.data.toList [92, 39, 34])) ∧ Below w.heap.size w w' := by
  have HU := hide (Tryd.strings_shouldUseASCIISet (s.size : Int) w)
  have h8z : decide ((8 : Int) < (s.size : Int)) = false := decide_eq_false (by omega)
  rw [h8z] at HU
  clear h8z
  go_enter Tryd.func75, Tryd.ntmps75
  go_wp2_with fail
  refine (unhide HU).mono ?_
  rintro e w1 ⟨rfl, rfl⟩
  go_wp2_with fail
  go_loopw [9, 10] (fun _ _ wx => ∃ i : Nat, Hid (i ≤ s.size ∧ wx.heap[w1.heap.size]? = some (.stringIter s i) ∧ Below w1.heap.size w1 wx ∧ Lib.NoAny s.data.toList [92, 39, 34] i)) (fun _ _ wx => s.size - itPos w1.heap.size wx)
  case atStart => exact ⟨0, hide ⟨Nat.zero_le _, World.iter_heap _ _ _, (Below.refl _ _).alloc (Nat.le_refl _) _, Lib.NoAny.zero _ _⟩⟩
  case round =>
    obtain ⟨i, HI⟩ := hrel
    obtain ⟨hi, hheap, hbel, hno⟩ := unhide HI
    have HPS : Hid (itPos w1.heap.size wr = i) := hide (by unfold itPos World.iterPos; rw [hheap])
    clear HI
    have HNO := hide hno
    have HBE := hide hbel
    clear hno hbel
    by_cases hlt : i < s.size
    · obtain ⟨x, hx⟩ : ∃ x : UInt8, x = s[i]'hlt := ⟨_, rfl⟩
      have hxl : s.data.toList[i]? = some x := by rw [hx]; exact Lib.data_getElem? s i hlt
      by_cases hx128 : x.toNat < 128
      · have hnx := fun ty => Lib.run_next_ascii_at (P := Tryd.prog) wr w1.heap.size s i ty hheap hlt (by rw [← hx]; exact hx128)
        rw [← hx] at hnx
        obtain ⟨wn, hwn⟩ : ∃ y, y = wr.iterAt w1.heap.size s (i + 1) := ⟨_, rfl⟩
        rw [← hwn] at hnx
        have HNH : Hid (wn.heap[w1.heap.size]? = some (.stringIter s (i + 1))) := hide (by rw [hwn]; exact Lib.iterAt_heap _ _ _ _ _ hheap)
        have HNB : Hid (Below w1.heap.size w1 wn) := hide (by rw [hwn]; exact Lib.below_iterAt (unhide HBE) (Nat.le_refl _) _ _)
        have HIR := hide (Tryd.strings_IndexRune_ascii ⟨#[92, 39, 34]⟩ (x.toNat : Int) wn (by omega) (by omega))
        rw [show ((x.toNat : Int)).toNat.toUInt8 = x by simp] at HIR
        have HXL := hide hxl
        clear hwn hx hxl hheap
        have hcon := Lib.contains_iff_indexByte [92, 39, 34] x
        obtain ⟨K, hK⟩ : ∃ K, K = Lib.indexByte [92, 39, 34] x := ⟨_, rfl⟩
        rw [show (⟨#[92, 39, 34]⟩ : ByteArray).data.toList = [92, 39, 34] from rfl, ← hK] at HIR
        rw [← hK] at hcon
        clear hK
        cases hin : ([92, 39, 34] : List UInt8).contains x
        · rw [hin] at hcon
          have hlt2 : ¬ ((0 : Int) ≤ K) := of_decide_eq_false hcon.symm
          have HIN := hide hin
          clear hcon hin
          go_wp2_with fail
          refine (unhide HIR).mono ?_
          rintro e w2 ⟨rfl, rfl⟩
          go_wp2
          go_roundw
          case rel => exact ⟨i + 1, hide ⟨by omega, unhide HNH, unhide HNB, (unhide HNO).succ (unhide HXL) (unhide HIN)⟩⟩
          case measure =>
            rw [unhide HPS, show itPos w1.heap.size w2 = i + 1 by unfold itPos World.iterPos; rw [unhide HNH]]
            omega
        · rw [hin] at hcon
          have hge : (0 : Int) ≤ K := of_decide_eq_true hcon.symm
          have HIN := hide hin
          clear hcon hin
          go_wp2_with fail
          refine (unhide HIR).mono ?_
          rintro e w2 ⟨rfl, rfl⟩
          go_wp2
          go_ret
          refine ⟨?_, unhide HNB⟩
          rw [Lib.indexAny_hit (unhide HNO) (unhide HXL) (unhide HIN)]
          rfl
      · have hnx := fun ty => Lib.run_next_any_at (P := Tryd.prog) wr w1.heap.size s i ty hheap hlt
        have hhi : 128 ≤ (s[i]'hlt).toNat := by rw [← hx]; omega
        have hdh := decode_high s i hlt hhi
        have hnw := noAny_wide hlt hhi (unhide HNO)
        obtain ⟨R, hR⟩ : ∃ R, R = (Utf8.decode s i).1 := ⟨_, rfl⟩
        obtain ⟨W, hW⟩ : ∃ R, R = i + (Utf8.decode s i).2 := ⟨_, rfl⟩
        rw [← hR, ← hW] at hnx
        rw [← hW] at hnw
        have hiW : i < W := by omega
        rw [← hR] at hdh
        obtain ⟨wn, hwn⟩ : ∃ y, y = wr.iterAt w1.heap.size s W := ⟨_, rfl⟩
        rw [← hwn] at hnx
        have HNH : Hid (wn.heap[w1.heap.size]? = some (.stringIter s W)) := hide (by rw [hwn]; exact Lib.iterAt_heap _ _ _ _ _ hheap)
        have HNB : Hid (Below w1.heap.size w1 wn) := hide (by rw [hwn]; exact Lib.below_iterAt (unhide HBE) (Nat.le_refl _) _ _)
        have HIR := hide (rune_high (R : Int) wn (by omega))
        have HNW := hide hnw
        clear hwn hx hxl hheap hR hW hdh hhi hnw hx128
        go_wp2_with fail
        refine (unhide HIR).mono ?_
        rintro e w2 ⟨rfl, hb2⟩
        have HB2 := hide hb2
        have hnl : w1.heap.size < wn.heap.size := (Array.getElem?_eq_some_iff.1 (unhide HNH)).1
        have HH2 : Hid (w2.heap[w1.heap.size]? = some (.stringIter s W)) := hide ((hb2.block _ hnl).trans (unhide HNH))
        clear hb2
        go_wp2
        go_roundw
        case rel => exact ⟨W, hide ⟨(unhide HNW).2, unhide HH2, (unhide HNB).trans ((unhide HB2).mono (Nat.le_of_lt hnl)), (unhide HNW).1⟩⟩
        case measure =>
          rw [unhide HPS, show itPos w1.heap.size w2 = W by unfold itPos World.iterPos; rw [unhide HH2]]
          omega
    · have hnx := fun ty => Lib.run_next_end_at (P := Tryd.prog) wr w1.heap.size s i ty hheap (by omega)
      go_wp2
      go_ret
      have hin : i = s.size := by omega
      refine ⟨?_, unhide HBE⟩
      rw [Lib.indexAny_none (by rw [← Lib.size_eq, ← hin]; exact unhide HNO)]
      rfl

theorem any_three (l : List UInt8) : Lib.containsAny l [92, 39, 34] = l.any (fun c => c == 92 || c == 39 || c == 34) := by
  unfold Lib.containsAny
  induction l with
  | nil => rfl
  | cons c l ih =>
    have hge := Lib.indexAny_ge [92, 39, 34] l
    rw [Lib.indexAny, List.any_cons]
    by_cases h : ([92, 39, 34] : List UInt8).contains c = true
    · rw [if_pos h]
      have : (c == 92 || c == 39 || c == 34) = true := by simpa [List.contains_cons, or_assoc] using h
      rw [this]
      rfl
    · rw [if_neg h]
      have : (c == 92 || c == 39 || c == 34) = false := by
        have h' : ([92, 39, 34] : List UInt8).contains c = false := by simpa using h
        simpa [List.contains_cons, or_assoc, and_assoc] using h'
      rw [this, Bool.false_or, ← ih]
      by_cases hm : Lib.indexAny l [92, 39, 34] = -1
      · rw [hm]; rfl
      · rw [if_neg (by simpa using hm)]
        exact decide_eq_decide.2 (by omega)

theorem info_ascii : (Tryd.prog.info? 100).map (fun i => (i.zero, i.size)) = some (some (.agg (Array.replicate 256 (.bool false))), 256) := by kernel_rfl

set_option maxHeartbeats 1000000 in
theorem contains3_any (word : List UInt8) (hw : word.length ≤ 100000) (w : World) :
    Calls Tryd.prog 64 #[.string (BA word), .string ⟨#[92, 39, 34]⟩] w fun e w' => e = .returned (.bool (word.any (fun c => c == 92 || c == 39 || c == 34))) ∧ Below w.heap.size w w' := by
  have HI : Hid (Calls Tryd.prog 75 #[.string (BA word), .string ⟨#[92, 39, 34]⟩] w fun e w' => e = .returned (.int .i64 (Lib.indexAny word [92, 39, 34])) ∧ Below w.heap.size w w') := hide (by
    by_cases h8 : word.length ≤ 8
    · exact indexAny_any8 (BA word) w h8
    · refine (Tryd.strings_IndexAny_long (zero_of_info info_ascii).1 (BA word) ⟨#[92, 39, 34]⟩ w (by decide) (by rw [BA_size]; omega) (by rw [BA_size]; omega) (by decide) ?_).mono ?_
      · intro j b hj
        exact three_low b (List.mem_of_getElem? hj)
      · rintro e w' ⟨rfl, rfl⟩
        exact ⟨rfl, ((Below.refl _ _).alloc (Nat.le_refl _) _).alloc (by simp) _⟩)
  have HT := hide (any_three word)
  unfold Lib.containsAny at HT
  obtain ⟨K, hK⟩ : ∃ K, K = Lib.indexAny word [92, 39, 34] := ⟨_, rfl⟩
  rw [← hK] at HI HT
  clear hK
  go_enter Tryd.func64, Tryd.ntmps64
  go_wp2_with fail
  refine (unhide HI).mono ?_
  rintro e w1 ⟨rfl, hb⟩
  have HB := hide hb
  clear hb
  go_wp2
  go_ret
  exact ⟨ret_bool (unhide HT), unhide HB⟩

end Go.Proofs.YtlmpdfeidjnmnaaDoor

/- 'strings.ContainsAny' with a backslash, a quote and double quotes, at any bytes.; 'strings.ContainsAny' with a backslash, a quote and double quotes, at any bytes: the whole.; A text in place is awaited: the lexer's 'await'. -/
import Derived.Test.YtojjfdobilkknaaGreatDoorM05
import Derived.Laws.RangeAny
import Derived.Laws.Runes
import Derived.Deep.LoopGhost
import Derived.WalkMore
import Derived.Lib.OthersKept
import Derived.Test.YtojjfdobilkknaaGreatDoorM08
import Derived.Deep.AppendLies
import Derived.Test.YtojjfdobilkknaaGreatDoorM14
import Derived.Maps.RangeWalk
set_option maxRecDepth 100000
set_option maxHeartbeats 40000000
namespace Go.Proofs.YtojjfdobilkknaaGreatDoor
open Go.RowKit
theorem idx_high (l : List UInt8) (c : UInt8) (hl : ∀ b ∈ l, b.toNat < 128) (hc : 128 ≤ c.toNat) : Lib.indexByte l c = -1 := by
 induction l with
 | nil => rfl
 | cons b l ih =>
   have hb : (b == c) = false := by
    rw [beq_eq_false_iff_ne]
    intro e
    have := hl b (by simp)
    rw [e] at this
    omega
   rw [Lib.indexByte, hb, ih (fun x hx => hl x (by simp [hx]))]
   rfl
theorem three_low : ∀ b ∈ ([92, 39, 34] : List UInt8), b.toNat < 128 := by decide
theorem rune_err (w : World) :
 Calls Tryz.prog 134 #[.string ⟨#[92, 39, 34]⟩, .int .i32 65533] w fun e w' => e = .returned (.int .i64 (-1)) ∧ Below w.heap.size w w' := by
 obtain ⟨s, hs⟩ : ∃ s : ByteArray, s = ⟨#[92, 39, 34]⟩ := ⟨_, rfl⟩
 have hsz : s.size = 3 := by rw [hs]; rfl
 have hlow : Hid (∀ i (h : i < s.size), (s[i]'h).toNat < 128) := hide (by rw [hs]; decide)
 rw [← hs]
 clear hs
 go_enter Tryz.func134, Tryz.ntmps134
 go_wp2_with fail
 go_loopg [5, 6] 3 (fun g _ _ wx => ∃ i : Nat, i + g = 3 ∧ wx = w.iter s i)
 case atStart => exact ⟨0, by omega, rfl⟩
 case round =>
  obtain ⟨i, hig, rfl⟩ := hrel
  cases gk with
  | zero =>
    obtain rfl : i = 3 := by omega
    have hnx := fun ty => run_next_end (P := Tryz.prog) w s 3 ty (by omega)
    go_wp2
    go_ret
    exact ⟨rfl, (Below.refl _ _).alloc (ler _) _⟩
  | succ g =>
    have hi : i < s.size := by omega
    have hlo := (uh hlow) i hi
    have hnx := fun ty => run_next_ascii (P := Tryz.prog) w s i ty hi hlo
    obtain ⟨x, hx⟩ : ∃ x, x = ((s[i]'hi).toNat : Int) := ⟨_, rfl⟩
    have hx2 : (x == 65533) = false := by rw [beq_eq_false_iff_ne]; omega
    rw [← hx] at hnx
    clear hx hlo
    go_wp2
    go_roundg g
    case measure => omega
    case rel => exact ⟨i + 1, by omega, rfl⟩
theorem rune_bad (r : Int) (w : World) (h1 : 128 ≤ r) (h2 : r ≠ 65533) (h3 : Lib.validRune r = false) :
 Calls Tryz.prog 134 #[.string ⟨#[92, 39, 34]⟩, .int .i32 r] w fun e w' => e = .returned (.int .i64 (-1)) ∧ Below w.heap.size w w' := by
 have c1 : ¬ r < 128 := by omega
 have c2 : (r == 65533) = false := by rw [beq_eq_false_iff_ne]; exact h2
 have c3 : 0 ≤ r := by omega
 have hv := Tryz.utf8_ValidRune r w
 rw [h3] at hv
 have HV := hide hv
 clear h1 h2 h3 hv
 go_enter Tryz.func134, Tryz.ntmps134
 go_wp2_with fail
 refine (uh HV).mono ?_
 rintro e w1 ⟨rfl, rfl⟩
 go_wp2
 go_ret
 exact ⟨rfl, Below.refl _ _⟩
theorem rune_good (r : Int) (w : World) (h1 : 128 ≤ r) (h2 : r ≠ 65533) (h3 : Lib.validRune r = true) :
 Calls Tryz.prog 134 #[.string ⟨#[92, 39, 34]⟩, .int .i32 r] w fun e w' => e = .returned (.int .i64 (-1)) ∧ Below w.heap.size w w' := by
 have c1 : ¬ r < 128 := by omega
 have c2 : (r == 65533) = false := by rw [beq_eq_false_iff_ne]; exact h2
 have c3 : 0 ≤ r := by omega
 have hv := Tryz.utf8_ValidRune r w
 rw [h3] at hv
 have HV := hide hv
 have hval : Utf8.valid r = true := by rw [validRune_eq]; exact h3
 obtain ⟨f1, f2, f3⟩ := encode_facts r hval h1
 obtain ⟨E, hE⟩ : ∃ E, E = Utf8.encode r := ⟨_, rfl⟩
 rw [← hE] at f1 f2 f3
 have hcv : ∀ W, (convert 21 9 (.int .i32 r)).run Tryz.prog W = .ok (.string E) W := by
  intro W; rw [hE]; exact run_convert_int_string W 21 9 .i32 r (by kernel_rfl) (by kernel_rfl)
 obtain ⟨L, hL⟩ : ∃ L : Nat, L = E.size - 1 := ⟨_, rfl⟩
 have hLl : L < E.size := by omega
 have hL1 : 1 ≤ L ∧ L ≤ 3 := by omega
 have hLs : IntKind.i64.wrap ((E.size : Int) - 1) = (L : Int) := by rw [IntKind.wrap_i64]; omega
 have hhi : 128 ≤ (E[L]'hLl).toNat := by have := f3 (by omega); simpa only [hL] using this
 obtain ⟨c, hc⟩ : ∃ c, c = E[L]'hLl := ⟨_, rfl⟩
 rw [← hc] at hhi
 obtain ⟨s, hs⟩ : ∃ s : ByteArray, s = ⟨#[92, 39, 34]⟩ := ⟨_, rfl⟩
 have hsz : s.size ≤ 3 ∧ 3 ≤ s.size := by rw [hs]; exact ⟨by decide, by decide⟩
 have hlow : ∀ i (h : i < s.size), (s[i]'h).toNat < 128 := by rw [hs]; decide
 have HIX : Hid (∀ a W, Calls Tryz.prog 83 #[.string (s.extract a s.size), .int .u8 (c.toNat : Int)] W fun e w' => e = .returned (.int .i64 (-1)) ∧ w' = W) := hide (fun a W => by
  have := Tryz.strings_IndexByte (s.extract a s.size) (c.toNat : Int) W
  rw [show ((c.toNat : Int)).toNat.toUInt8 = c by simp, idx_high _ c (fun b hb => three_low b (by rw [hs] at hb; exact mem_extract hb)) hhi] at this
  exact this)
 have HLW := hide hlow
 rw [← hs]
 have HHI := hide hhi
 have hLe : (L : Int) < (E.size : Int) := by omega
 have HC := hide hc
 clear h1 h2 h3 hv hval f1 f2 f3 hE hs hlow hhi hc hL
 go_enter Tryz.func134, Tryz.ntmps134
 go_wp2_with fail
 refine (uh HV).mono ?_
 rintro e w1 ⟨rfl, rfl⟩
 go_wp2_with fail
 go_step3
 go_wp2_with fail
 go_loopw [9, 10] (fun a b wr => a = .int .i64 (L : Int) ∧ b = .int .i64 0 ∧ wr = w1) (fun _ _ _ => 0)
 case atStart => exact ⟨rfl, rfl, rfl⟩
 case round =>
  obtain ⟨rfl, rfl, rfl⟩ := hrel
  by_cases hlt : L < s.size
  ·have hlt' : (L : Int) < (s.size : Int) := by omega
   have hL0 : (0 : Int) ≤ (L : Int) := by omega
   have hne : ((s[L]'hlt).toNat : Int) ≠ ((E[L]'hLl).toNat : Int) := by
    have a := (uh HLW) L hlt
    have b := uh HHI
    rw [uh HC] at b
    omega
   obtain ⟨L1, hL1'⟩ : ∃ x, x = L + 1 := ⟨_, rfl⟩
   have hw1 : IntKind.i64.wrap ((L : Int) + 1) = (L1 : Int) := by rw [IntKind.wrap_i64]; omega
   have HIX2 : Hid (∀ W, Calls Tryz.prog 83 #[.string (s.extract L1 s.size), .int .u8 ((E[L]'hLl).toNat : Int)] W fun e w' => e = .returned (.int .i64 (-1)) ∧ w' = W) := hide (fun W => by rw [← uh HC]; exact uh HIX _ W)
   have hle2 : (L1 : Int) ≤ (s.size : Int) := by omega
   clear hL1'
   go_wp2_with fail
   go_step3
   go_wp2_with fail
   go_quiet (fail)
   obtain ⟨wq, hwq⟩ : ∃ x, x = wr.drewN nq := ⟨_, rfl⟩
   rw [← hwq]
   have HWQ : Hid (Below wr.heap.size wr wq) := hide (by rw [hwq]; exact bdr _ _)
   clear hwq
   go_wp2_with fail
   go_quiet ((go_at_call 83; exact Calls.quiet_of_same (uh HIX2 _)))
   go_wp2
   simp +zetaDelta only [Exit.inBlock, Exit.noGoto_ret, Exit.then]
   go_ret
   exact ⟨rfl, (uh HWQ).trans ((bdr _ _).mono (uh HWQ).size)⟩
  ·have hlt' : ¬ (L : Int) < (s.size : Int) := by omega
   go_wp2
   try rw [Exit.noGoto_ret]
   go_ret
   exact ⟨rfl, Below.refl _ _⟩
theorem rune_high (r : Int) (w : World) (h1 : 128 ≤ r) :
 Calls Tryz.prog 134 #[.string ⟨#[92, 39, 34]⟩, .int .i32 r] w fun e w' => e = .returned (.int .i64 (-1)) ∧ Below w.heap.size w w' := by
 by_cases h2 : r = 65533
 ·subst h2; exact rune_err w
 ·cases h3 : Lib.validRune r
  ·exact rune_bad r w h1 h2 h3
  ·exact rune_good r w h1 h2 h3
theorem decode_wide (s : ByteArray) (pos : Nat) (h : pos < s.size) (ha : 128 ≤ (s[pos]'h).toNat) : ∀ k, k < (Utf8.decode s pos).2 → ∃ hk : pos + k < s.size, 128 ≤ (s[pos + k]'hk).toNat := by
 have hn : ¬ (s[pos]'h).toNat < 128 := by omega
 have hget : ∀ k (hk : pos + k < s.size), s.get! (pos + k) = s[pos + k]'hk := fun k hk => by
  simp [ByteArray.get!, getElem!_pos, hk]
  rfl
 have h0 : ∃ hk : pos + 0 < s.size, 128 ≤ (s[pos + 0]'hk).toNat := ⟨h, ha⟩
 have hco : ∀ k, (decide (pos + k < s.size) && ((s.get! (pos + k)).toNat / 64 == 2)) = true → ∃ hk : pos + k < s.size, 128 ≤ (s[pos + k]'hk).toNat := by
  intro k hk
  rw [Bool.and_eq_true] at hk
  have h1 : pos + k < s.size := of_decide_eq_true hk.1
  refine ⟨h1, ?_⟩
  have h2 : (s.get! (pos + k)).toNat / 64 = 2 := by simpa using hk.2
  rw [hget k h1] at h2
  omega
 simp only [Utf8.decode, get_at s pos h, hn, if_false]
 split
 ·next hc =>
  rw [Bool.and_eq_true] at hc
  split
  ·intro k hk
   match k, hk with
   | 0, _ => exact h0
   | 1, _ => exact hco 1 hc.2
   | k + 2, hk => simp at hk; omega
  ·intro k hk
   have : k = 0 := by simp at hk; exact hk
   subst this
   exact h0
 ·split
  ·next hc =>
   rw [Bool.and_eq_true, Bool.and_eq_true] at hc
   split
   ·intro k hk
    match k, hk with
    | 0, _ => exact h0
    | 1, _ => exact hco 1 hc.1.2
    | 2, _ => exact hco 2 hc.2
    | k + 3, hk => simp at hk; omega
   ·intro k hk
    have : k = 0 := by simp at hk; exact hk
    subst this
    exact h0
  ·split
   ·next hc =>
    rw [Bool.and_eq_true, Bool.and_eq_true, Bool.and_eq_true] at hc
    split
    ·intro k hk
     match k, hk with
     | 0, _ => exact h0
     | 1, _ => exact hco 1 hc.1.1.2
     | 2, _ => exact hco 2 hc.1.2
     | 3, _ => exact hco 3 hc.2
     | k + 4, hk => simp at hk; omega
    ·intro k hk
     have : k = 0 := by simp at hk; exact hk
     subst this
     exact h0
   ·intro k hk
    have : k = 0 := by simp at hk; exact hk
    subst this
    exact h0
theorem three_high (x : UInt8) (h : 128 ≤ x.toNat) : ([92, 39, 34] : List UInt8).contains x = false := by
 have h1 : x ≠ 92 := fun e => by rw [e] at h; exact absurd h (by decide)
 have h2 : x ≠ 39 := fun e => by rw [e] at h; exact absurd h (by decide)
 have h3 : x ≠ 34 := fun e => by rw [e] at h; exact absurd h (by decide)
 simp [h1, h2, h3]
theorem noAny_wide {s : ByteArray} {pos : Nat} (h : pos < s.size) (ha : 128 ≤ (s[pos]'h).toNat) (hn : Lib.NoAny s.data.toList [92, 39, 34] pos) : Lib.NoAny s.data.toList [92, 39, 34] (pos + (Utf8.decode s pos).2) ∧ pos + (Utf8.decode s pos).2 ≤ s.size := by
 have hw := decode_wide s pos h ha
 constructor
 ·intro j b hj hb
  rcases Nat.lt_or_ge j pos with h1 | h1
  ·exact hn j b h1 hb
  ·obtain ⟨hk, h128⟩ := hw (j - pos) (by omega)
   have e : pos + (j - pos) = j := by omega
   have hjs : j < s.size := by omega
   have : s.data.toList[j]? = some (s[j]'hjs) := Lib.data_getElem? s j hjs
   rw [this] at hb
   injection hb with hb
   refine three_high b ?_
   rw [← hb]
   simpa only [e] using h128
 ·have h1 := (decode_high s pos h ha).2
  obtain ⟨hk, _⟩ := hw ((Utf8.decode s pos).2 - 1) (by omega)
  omega
def itPos (k : Nat) (w : World) : Nat := World.iterPos w k
theorem indexAny_any8 (s : ByteArray) (w : World) (h8 : s.size ≤ 8) :
 Calls Tryz.prog 115 #[.string s, .string ⟨#[92, 39, 34]⟩] w fun e w' => e = .returned (.int .i64 (Lib.indexAny s.data.toList [92, 39, 34])) ∧ Below w.heap.size w w' := by
 have HU := hide (Tryz.strings_shouldUseASCIISet (s.size : Int) w)
 have h8z : decide ((8 : Int) < (s.size : Int)) = false := decide_eq_false (by omega)
 rw [h8z] at HU
 clear h8z
 go_enter Tryz.func115, Tryz.ntmps115
 go_wp2_with fail
 refine (uh HU).mono ?_
 rintro e w1 ⟨rfl, rfl⟩
 go_wp2_with fail
 go_loopw [9, 10] (fun _ _ wx => ∃ i : Nat, Hid (i ≤ s.size ∧ wx.heap[w1.heap.size]? = some (.stringIter s i) ∧ Below w1.heap.size w1 wx ∧ Lib.NoAny s.data.toList [92, 39, 34] i)) (fun _ _ wx => s.size - itPos w1.heap.size wx)
 case atStart => exact ⟨0, hide ⟨Nat.zero_le _, World.iter_heap _ _ _, (Below.refl _ _).alloc (ler _) _, Lib.NoAny.zero _ _⟩⟩
 case round =>
  obtain ⟨i, HI⟩ := hrel
  obtain ⟨hi, hheap, hbel, hno⟩ := uh HI
  have HPS : Hid (itPos w1.heap.size wr = i) := hide (by unfold itPos World.iterPos; rw [hheap])
  clear HI
  have HNO := hide hno
  have HBE := hide hbel
  clear hno hbel
  by_cases hlt : i < s.size
  ·obtain ⟨x, hx⟩ : ∃ x : UInt8, x = s[i]'hlt := ⟨_, rfl⟩
   have hxl : s.data.toList[i]? = some x := by rw [hx]; exact Lib.data_getElem? s i hlt
   by_cases hx128 : x.toNat < 128
   ·have hnx := fun ty => Lib.run_next_ascii_at (P := Tryz.prog) wr w1.heap.size s i ty hheap hlt (by rw [← hx]; exact hx128)
    rw [← hx] at hnx
    obtain ⟨wn, hwn⟩ : ∃ y, y = wr.iterAt w1.heap.size s (i + 1) := ⟨_, rfl⟩
    rw [← hwn] at hnx
    have HNH : Hid (wn.heap[w1.heap.size]? = some (.stringIter s (i + 1))) := hide (by rw [hwn]; exact Lib.iterAt_heap _ _ _ _ _ hheap)
    have HNB : Hid (Below w1.heap.size w1 wn) := hide (by rw [hwn]; exact Lib.below_iterAt (uh HBE) (ler _) _ _)
    have HIR := hide (Tryz.strings_IndexRune_ascii ⟨#[92, 39, 34]⟩ (x.toNat : Int) wn (by omega) (by omega))
    rw [show ((x.toNat : Int)).toNat.toUInt8 = x by simp] at HIR
    have HXL := hide hxl
    clear hwn hx hxl hheap
    have hcon := Lib.contains_iff_indexByte [92, 39, 34] x
    obtain ⟨K, hK⟩ : ∃ K, K = Lib.indexByte [92, 39, 34] x := ⟨_, rfl⟩
    rw [show (⟨#[92, 39, 34]⟩ : ByteArray).data.toList = [92, 39, 34] from rfl, ← hK] at HIR
    rw [← hK] at hcon
    clear hK
    cases hin : ([92, 39, 34] : List UInt8).contains x
    ·rw [hin] at hcon
     have hlt2 : ¬ ((0 : Int) ≤ K) := of_decide_eq_false hcon.symm
     have HIN := hide hin
     clear hcon hin
     go_wp2_with fail
     refine (uh HIR).mono ?_
     rintro e w2 ⟨rfl, rfl⟩
     go_wp2
     go_roundw
     case rel => exact ⟨i + 1, hide ⟨by omega, uh HNH, uh HNB, (uh HNO).succ (uh HXL) (uh HIN)⟩⟩
     case measure =>
      rw [uh HPS, show itPos w1.heap.size w2 = i + 1 by unfold itPos World.iterPos; rw [uh HNH]]
      omega
    ·rw [hin] at hcon
     have hge : (0 : Int) ≤ K := of_decide_eq_true hcon.symm
     have HIN := hide hin
     clear hcon hin
     go_wp2_with fail
     refine (uh HIR).mono ?_
     rintro e w2 ⟨rfl, rfl⟩
     go_wp2
     go_ret
     refine ⟨?_, uh HNB⟩
     rw [Lib.indexAny_hit (uh HNO) (uh HXL) (uh HIN)]
     rfl
   ·have hnx := fun ty => Lib.run_next_any_at (P := Tryz.prog) wr w1.heap.size s i ty hheap hlt
    have hhi : 128 ≤ (s[i]'hlt).toNat := by rw [← hx]; omega
    have hdh := decode_high s i hlt hhi
    have hnw := noAny_wide hlt hhi (uh HNO)
    obtain ⟨R, hR⟩ : ∃ R, R = (Utf8.decode s i).1 := ⟨_, rfl⟩
    obtain ⟨W, hW⟩ : ∃ R, R = i + (Utf8.decode s i).2 := ⟨_, rfl⟩
    rw [← hR, ← hW] at hnx
    rw [← hW] at hnw
    have hiW : i < W := by omega
    rw [← hR] at hdh
    obtain ⟨wn, hwn⟩ : ∃ y, y = wr.iterAt w1.heap.size s W := ⟨_, rfl⟩
    rw [← hwn] at hnx
    have HNH : Hid (wn.heap[w1.heap.size]? = some (.stringIter s W)) := hide (by rw [hwn]; exact Lib.iterAt_heap _ _ _ _ _ hheap)
    have HNB : Hid (Below w1.heap.size w1 wn) := hide (by rw [hwn]; exact Lib.below_iterAt (uh HBE) (ler _) _ _)
    have HIR := hide (rune_high (R : Int) wn (by omega))
    have HNW := hide hnw
    clear hwn hx hxl hheap hR hW hdh hhi hnw hx128
    go_wp2_with fail
    refine (uh HIR).mono ?_
    rintro e w2 ⟨rfl, hb2⟩
    have HB2 := hide hb2
    have hnl : w1.heap.size < wn.heap.size := (Array.getElem?_eq_some_iff.1 (uh HNH)).1
    have HH2 : Hid (w2.heap[w1.heap.size]? = some (.stringIter s W)) := hide ((hb2.block _ hnl).trans (uh HNH))
    clear hb2
    go_wp2
    go_roundw
    case rel => exact ⟨W, hide ⟨(uh HNW).2, uh HH2, (uh HNB).trans ((uh HB2).mono (lel hnl)), (uh HNW).1⟩⟩
    case measure =>
     rw [uh HPS, show itPos w1.heap.size w2 = W by unfold itPos World.iterPos; rw [uh HH2]]
     omega
  ·have hnx := fun ty => Lib.run_next_end_at (P := Tryz.prog) wr w1.heap.size s i ty hheap (by omega)
   go_wp2
   go_ret
   have hin : i = s.size := by omega
   refine ⟨?_, uh HBE⟩
   rw [Lib.indexAny_none (by rw [← Lib.size_eq, ← hin]; exact uh HNO)]
   rfl
theorem any_three (l : List UInt8) : Lib.containsAny l [92, 39, 34] = l.any (fun c => c == 92 || c == 39 || c == 34) := by
 unfold Lib.containsAny
 induction l with
 | nil => rfl
 | cons c l ih =>
   have hge := Lib.indexAny_ge [92, 39, 34] l
   rw [Lib.indexAny, List.any_cons]
   by_cases h : ([92, 39, 34] : List UInt8).contains c = true
   ·rw [if_pos h]
    have : (c == 92 || c == 39 || c == 34) = true := by simpa [List.contains_cons, or_assoc] using h
    rw [this]
    rfl
   ·rw [if_neg h]
    have : (c == 92 || c == 39 || c == 34) = false := by
     have h' : ([92, 39, 34] : List UInt8).contains c = false := by simpa using h
     simpa [List.contains_cons, or_assoc, and_assoc] using h'
    rw [this, Bool.false_or, ← ih]
    by_cases hm : Lib.indexAny l [92, 39, 34] = -1
    ·rw [hm]; rfl
    ·rw [if_neg (by simpa using hm)]
     exact decide_eq_decide.2 (by omega)
theorem info_ascii : (Tryz.prog.info? 135).map (fun i => (i.zero, i.size)) = some (some (.agg (Array.replicate 256 (.bool false))), 256) := by kernel_rfl
theorem contains3_any (word : List UInt8) (hw : word.length ≤ 100000) (w : World) :
 Calls Tryz.prog 95 #[.string (BA word), .string ⟨#[92, 39, 34]⟩] w fun e w' => e = .returned (.bool (word.any (fun c => c == 92 || c == 39 || c == 34))) ∧ Below w.heap.size w w' := by
 have HI : Hid (Calls Tryz.prog 115 #[.string (BA word), .string ⟨#[92, 39, 34]⟩] w fun e w' => e = .returned (.int .i64 (Lib.indexAny word [92, 39, 34])) ∧ Below w.heap.size w w') := hide (by
  by_cases h8 : word.length ≤ 8
  ·exact indexAny_any8 (BA word) w h8
  ·refine (Tryz.strings_IndexAny_long (zero_of_info info_ascii).1 (BA word) ⟨#[92, 39, 34]⟩ w (by decide) (by rw [BA_size]; omega) (by rw [BA_size]; omega) (by decide) ?_).mono ?_
   ·intro j b hj
    exact three_low b (List.mem_of_getElem? hj)
   ·rintro e w' ⟨rfl, rfl⟩
    exact ⟨rfl, ((Below.refl _ _).alloc (ler _) _).alloc (by simp) _⟩)
 have HT := hide (any_three word)
 unfold Lib.containsAny at HT
 obtain ⟨K, hK⟩ : ∃ K, K = Lib.indexAny word [92, 39, 34] := ⟨_, rfl⟩
 rw [← hK] at HI HT
 clear hK
 go_enter Tryz.func95, Tryz.ntmps95
 go_wp2_with fail
 refine (uh HI).mono ?_
 rintro e w1 ⟨rfl, hb⟩
 have HB := hide hb
 clear hb
 go_wp2
 go_ret
 exact ⟨ret_bool (uh HT), uh HB⟩
theorem und_wts : Tryz.prog.underlying 69 = some (.slice 78) := by kernel_rfl
theorem info_wtp : (Tryz.prog.info? 78).map (fun i => (i.zero, i.size, i.bytes)) = some (some (.pointer none), 1, 8) := by kernel_rfl
theorem one_ptr2 {w : World} {x : Value} {t u : TypeId} {cs : Array Value} : ∀ j v, [x][j]? = some v → ((w.alloc (.cells cs t)).alloc (.cells #[x] u)).cell? ((⟨w.heap.size + 1, 0, none⟩ : Addr).add j) = some v := by
 intro j v hj
 have hb := Blk.new (w.alloc (.cells cs t)) u #[x]
 rw [show (w.alloc (.cells cs t)).heap.size = w.heap.size + 1 by simp] at hb
 match j, hj with
 | 0, hj => simp at hj; subst hj; rw [add_at]; exact hb.cell 0 rfl
theorem arows_ne {w : World} {base base' n n' : Nat} {e e' : TypeId} {v u : Value} {xs ys : List Value} (h : w.ownsRow base e 1 v n xs) (h' : w.ownsRow base' e' 1 u n' ys) (hne : e ≠ e') {k : Nat} (hk : v.ownBlock = some k) : some k ≠ u.ownBlock := by
 rcases h.2 with ⟨rfl, _⟩ | ⟨g, cap, cur, rfl, _, hg, _⟩
 ·simp [Value.ownBlock] at hk
 ·have hk : g = k := by simpa [Value.ownBlock] using hk
  subst hk
  exact own_type h' (show Blk w g e cur from hg) hne
theorem LexAt.below {w w1 : World} {b : Nat} {v u : Value} {s : ByteArray} {r : Nat} {ps ks : List Nat} {st : LS} (h : LexAt w b v u s r ps ks st) {n : Nat} (hb : Below n w w1) (hn : w.heap.size ≤ n) : LexAt w1 b v u s r ps ks st := by
 have hg : GrownS w w1 (fun _ => False) := ⟨hb.os, hb.tape, hb.output, hb.size, fun k hk _ => hb.block k (by omega)⟩
 exact ⟨h.rdr.grownS hg (fun e => e), h.toks.grownS hg (fun _ _ e => e) (fun _ _ e => e), h.wts.grownS hg (fun _ _ e => e) (fun _ _ e => e), h.rest, h.zero⟩
theorem Wts.at {w : World} {base : Nat} {u : Value} {ks ps : List Nat} {ws : List Wt} (h : Wts w base u ks ps ws) {k : Nat} (hk : k ∈ ks) : base ≤ k ∧ ∃ C, Blk w k 77 C := by
 obtain ⟨i, hi, rfl⟩ := List.getElem_of_mem hk
 have hi2 : i < ws.length := by rw [← h.len]; exact hi
 obtain ⟨h3, q, _, h5⟩ := h.blk i ks[i] ws[i] (List.getElem?_eq_getElem hi) (List.getElem?_eq_getElem hi2)
 exact ⟨h3, _, h5⟩
theorem tok_kept {w2 w3 : World} {b n q : Nat} {u : Value} {xs : List Value} {cs : Array Value} {o1 o2 : Obj} (hrow : w2.ownsRow (b + 1) 78 1 u n xs) (hq : Blk w2 q 74 cs) (hg : ((w2.alloc o1).alloc o2).grownBy w3 u.ownBlock) : Blk w3 q 74 cs :=
 ((hq.alloc o1).alloc o2).kept hg (own_type (World.ownsRow.alloc (World.ownsRow.alloc hrow o1) o2) ((hq.alloc o1).alloc o2) (by decide))
theorem await_fin {w2 w3 : World} {b : Nat} {v u u' : Value} {s : ByteArray} {r : Nat} {ps ks : List Nat} {st : LS} {i q : Nat} {en : List UInt8} {T : Bool} {o2 : Obj} (h : LexAt w2 b v u s r ps ks st) (hpi : ps[i]? = some q)
 (hown : w3.ownsRow (b + 1) 78 1 u' (ks.length + 1) (ptrs ks ++ [.pointer (some ⟨w2.heap.size, 0, none⟩)])) (hg : ((w2.alloc (.cells (wtCells q (BA en) T) 77)).alloc o2).grownBy w3 u.ownBlock) :
 w3.cell? ⟨b, 6, none⟩ = some u ∧ w3.frozen? ⟨b, 6, none⟩ = false ∧ LexAt (w3.setCell ⟨b, 6, none⟩ u') b v u' s r ps (ks ++ [w2.heap.size]) { st with wait := st.wait ++ [⟨i, en, T⟩] } ∧ GrownS w2 (w3.setCell ⟨b, 6, none⟩ u') (fun y => b ≤ y) := by
 have hbl := h.rdr.blk.lt
 have g3 : GrownS w2 w3 (fun k => some k = u.ownBlock) := (GrownS.of (World.grownBy_alloc w2 _ none) (by simp)).trans ((GrownS.of (World.grownBy_alloc _ _ none) (by simp)).trans (GrownS.of hg (fun _ e => e)))
 have hub : some b ≠ u.ownBlock := own_type h.wts.row h.rdr.blk (by decide)
 have r3 := h.rdr.grownS g3 hub
 have t3 := h.toks.grownS g3 (fun k hk => arows_ne h.toks.row h.wts.row (by decide) hk) (fun p hp => by
  obtain ⟨_, t, ht⟩ := h.toks.at hp
  exact own_type h.wts.row ht (by decide))
 have gs : GrownS w3 (w3.setCell ⟨b, 6, none⟩ u') (fun y => y = b) := GrownS.of (gsc w3 ⟨b, 6, none⟩ _) (fun x e => by simpa using e)
 have hu' : some b ≠ u'.ownBlock := own_type hown r3.blk (by decide)
 have hnew : Blk w3 w2.heap.size 77 (wtCells q (BA en) T) := by
  have h0 : Blk ((w2.alloc (.cells (wtCells q (BA en) T) 77)).alloc o2) w2.heap.size 77 (wtCells q (BA en) T) := (Blk.new w2 _ _).alloc _
  exact h0.kept hg (own_type (World.ownsRow.alloc (World.ownsRow.alloc h.wts.row _) _) h0 (by decide))
 refine ⟨r3.blk.cell 6 (by simp), r3.blk.frozen 6, ⟨r3.waits u', t3.grownS gs (fun k hk e => own_type t3.row r3.blk (by decide) (by rw [← e]; exact hk.symm)) (fun p hp e => by have := (h.toks.at hp).1; omega), ?_, h.rest, h.zero⟩, (g3.mono (fun k _ e => ?_)).trans (gs.mono (fun _ _ e => by omega))⟩
 ·refine ⟨?_, by rw [List.length_append, List.length_append, h.wts.len]; rfl, ?_⟩
  ·have e : ptrs (ks ++ [w2.heap.size]) = ptrs ks ++ [.pointer (some ⟨w2.heap.size, 0, none⟩)] := by simp [ptrs]
   rw [e, List.length_append]
   exact own_grownS hown gs (fun k hk e => hu' (by rw [← e]; exact hk.symm))
  ·intro j k x hk hx
   rcases Nat.lt_or_ge j ks.length with hj | hj
   ·rw [List.getElem?_append_left hj] at hk
    rw [List.getElem?_append_left (by rw [← h.wts.len]; exact hj)] at hx
    obtain ⟨h3, q', h4, h5⟩ := h.wts.blk j k x hk hx
    exact ⟨h3, q', h4, (h5.grownS g3 (own_type h.wts.row h5 (by decide))).grownS gs (by show ¬ k = b; omega)⟩
   ·rw [List.getElem?_append_right hj] at hk
    rw [List.getElem?_append_right (by rw [← h.wts.len]; exact hj)] at hx
    have h0 : j - ks.length = 0 := by
     have := (List.getElem?_eq_some_iff.1 hk).1
     simp at this
     omega
    rw [h0] at hk
    rw [← h.wts.len, h0] at hx
    simp at hk hx
    subst hk hx
    exact ⟨by omega, q, hpi, hnew.grownS gs (by show ¬ w2.heap.size = b; omega)⟩
 ·have := (World.ownsRow.lt h.wts.row k e.symm).1
  omega
theorem await_two (w : World) (b : Nat) (v u : Value) (s : ByteArray) (r : Nat) (ps ks : List Nat) (st : LS) (word : List UInt8) (m : Int) (q : Nat) (t : Tok) (h : LexAt w b v u s r ps ks st) (hw : st.wait.length ≤ 100000) (hl : st.toks.length ≤ 100000) (hwd : word.length ≤ 100000) (hm : w.cell? ⟨1, 0, none⟩ = some (.int .i64 m)) (hb1 : 1 < b) (hp : ps[st.toks.length - 1]? = some q) (ht : st.toks[st.toks.length - 1]? = some t) (htx : t.text = ⟨#[60, 60]⟩) :
 Calls Tryz.prog 74 #[.pointer (some ⟨b, 0, none⟩), .string (BA word)] w fun e w' => e = .returned (.tuple #[]) ∧ ∃ u' ks', LexAt w' b v u' s r ps ks' (awaitL st word) ∧ GrownS w w' (fun y => b ≤ y) := by
 obtain ⟨i0, hi, hz0, hz1, hz2⟩ := info_of info_wtp
 obtain ⟨n, hn⟩ : ∃ n, n = st.toks.length - 1 := ⟨_, rfl⟩
 have hlen1 : 0 < st.toks.length := by
  have := (List.getElem?_eq_some_iff.1 ht).1
  omega
 rw [← hn] at hp ht
 obtain ⟨B, hB⟩ : ∃ B, B = word.any (fun c => c == 92 || c == 39 || c == 34) := ⟨_, rfl⟩
 obtain ⟨st1, hst1⟩ : ∃ x : LS, x = { st with toks := st.toks.modify n (fun t => { t with raw := B }) } := ⟨_, rfl⟩
 have HAW : Hid (awaitL st word = { st1 with wait := st1.wait ++ [⟨n, endL word, false⟩] }) := hide (by
  unfold awaitL
  have hgl : st.toks.getLast? = some t := by rw [List.getLast?_eq_getElem?, ← hn]; exact ht
  rw [hgl]
  have e : t.text = BA [60, 60] := by rw [htx]; rfl
  have e1 : (t.text = BA [60, 60] ∨ t.text = BA [60, 60, 45]) := by rw [e]; first | exact .inl rfl | exact .inr rfl
  simp only [e1, if_true, hst1, ← hn, ← hB]
  rw [e, show (BA [60, 60] == BA [60, 60, 45]) = false from by decide])
 obtain ⟨hbq, hqb⟩ := h.toks.blk n q t hp ht
 obtain ⟨ad, cap, hv, hsh⟩ := ptr_shape h.toks.row rfl
 obtain ⟨g, hg0, hgl, hcg⟩ := hsh n q hp
 subst hg0
 have hpsl : ps.length = n + 1 := by rw [h.toks.len]; omega
 rw [hpsl] at hv
 subst hv
 obtain ⟨ua, uc, hu, _⟩ := ptr_shape h.wts.row rfl
 subst hu
 have hks : ks.length ≤ 100000 := by rw [h.wts.len]; exact hw
 have c5 : w.cell? ⟨b, 5, none⟩ = some (.slice (some ⟨g, 0, none⟩) (n + 1) cap) := h.rdr.blk.cell 5 (by simp)
 have q1 : w.cell? ⟨q, 1, none⟩ = some (.string ⟨#[60, 60]⟩) := by rw [← htx]; exact hqb.cell 1 rfl
 have hnn : n + 1 ≤ 100000 := by omega
 have hwr : IntKind.i64.wrap (((n + 1 : Nat) : Int) - 1) = (n : Int) := by rw [IntKind.wrap_i64]; omega
 have hz : (((n + 1 : Nat) : Int) == 0) = false := by rw [beq_eq_false_iff_ne]; omega
 have hidx : (n : Int) < ((n + 1 : Nat) : Int) := by omega
 have hn0 : (0 : Int) ≤ (n : Int) := by omega
 have HH := hide h
 have HM := hide hm
 have HQB := hide hqb
 have HTT := hide ht
 have HPP := hide hp
 have HTX := hide htx
 have HST := hide hst1
 have HBB := hide hB
 have hbl := h.rdr.blk.lt
 clear h hm hqb ht hp htx hst1 hB hn hsh hgl hlen1 hpsl hl hw
 have HCA := hide (contains3_any word hwd)
 go_enter Tryz.func74, Tryz.ntmps74
 go_wp2_with fail
 go_quiet (fail)
 obtain ⟨wA, hwA⟩ : ∃ x, x = w.drewN nq := ⟨_, rfl⟩
 have gA : GrownS w wA (fun _ => False) := by rw [hwA]; exact GrownS.of (gdn w nq) (by simp)
 have qA : wA.cell? ⟨q, 1, none⟩ = some (.string ⟨#[60, 60]⟩) := by rw [hwA]; exact q1
 rw [← hwA]
 have BA0 : Below w.heap.size w wA := by rw [hwA]; exact bdr w nq
 have HBA := hide BA0
 clear hwA c5 hcg gA BA0
 go_wp2_with fail
 refine (uh HCA wA).mono ?_
 rintro en wB ⟨rfl, bB⟩
 rw [← uh HBB]
 have hA := (uh HH).below (uh HBA) (ler _)
 have hBst := hA.below bB (ler _)
 have hqB := (uh HQB).grownS (gsb (S := fun _ => False) (uh HBA)) (fun e => e)
 have hqB := hqB.grownS (gsb (S := fun _ => False) bB) (fun e => e)
 have hC : LexAt (wB.setCell ⟨q, 4, none⟩ (.bool B)) b (.slice (some ⟨g, 0, none⟩) (n + 1) cap) (.slice ua ks.length uc) s r ps ks st1 := by
  have gq : GrownS wB (wB.setCell ⟨q, 4, none⟩ (.bool B)) (fun y => y = q) := GrownS.of (gsc wB ⟨q, 4, none⟩ _) (fun x e => by simpa using e)
  refine ⟨?_, ?_, ?_, ?_, ?_⟩
  ·rw [uh HST]
   exact hBst.rdr.grownS gq (by show ¬ b = q; omega)
  ·rw [uh HST]
   exact hBst.toks.write (c := 4) (x := .bool B) (fun t => { t with raw := B }) (uh HPP) (uh HTT) rfl
  ·rw [uh HST]
   exact hBst.wts.past hBst.rdr.blk hqB (gq.mono (fun _ _ e => .inr e))
  ·rw [uh HST]; exact hBst.rest
  ·rw [uh HST]; exact hBst.zero
 have HG0 : Hid (GrownS w wB (fun y => b ≤ y)) := hide ((gsb (uh HBA)).trans (gsb bB))
 have q4 : wB.cell? ⟨q, 4, none⟩ = some (.bool t.raw) := hqB.cell 4 rfl
 have z4 := hqB.frozen 4
 have HG1' : Hid (GrownS wB (wB.setCell ⟨q, 4, none⟩ (.bool B)) (fun y => b ≤ y)) := hide (GrownS.of (gsc wB ⟨q, 4, none⟩ _) (fun x e => (show x = q by simpa using e) ▸ (by omega : b ≤ q)))
 have HC := hide hC
 clear hA hBst hqB hC bB qA
 go_wp2_with fail
 obtain ⟨wC, hwC⟩ : ∃ x, x = wB.setCell ⟨q, 4, none⟩ (.bool B) := ⟨_, rfl⟩
 rw [← hwC] at HC HG1'
 rw [← hwC]
 clear hwC q4 z4
 have d6 : wC.cell? ⟨b, 6, none⟩ = some (.slice ua ks.length uc) := (uh HC).rdr.blk.cell 6 (by simp)
 have HTI : Hid (st1.toks[n]? = some { t with raw := B }) := hide (by rw [uh HST]; simp [uh HTT])
 have hpi := uh HPP
 have hqC := ((uh HC).toks.blk n q _ hpi (uh HTI)).2
 have y0 : wC.cell? ⟨q, 1, none⟩ = some (.string ⟨#[60, 60]⟩) := hqC.cell 1 (by rw [← uh HTX]; rfl)
 have bU : Below wC.heap.size wC wC.drew := bdr wC 1
 have hU := (uh HC).below bU (ler _)
 have hbU : wC.drew.heap.size ≤ wC.drew.heap.size := ler _
 have HQ : Hid (True ∧ ∀ w2, Below wC.drew.heap.size wC.drew w2 → w2.cell? ⟨q, 1, none⟩ = some (.string ⟨#[60, 60]⟩)) := hide ⟨trivial, fun w2 hb2 => by
  rw [World.cell?_of_block (hb2.block q (hqC.below bU hqC.lt).lt), World.cell?_of_block (bU.block q hqC.lt)]
  exact y0⟩
 have hmU : wC.drew.cell? ⟨1, 0, none⟩ = some (.int .i64 m) := by
  rw [World.cell?_of_block (bU.block 1 (by have := hqC.lt; omega)), World.cell?_of_block ((uh HG1').block 1 (by have := (uh HG0).size; omega) (by omega)), World.cell?_of_block ((uh HG0).block 1 (by omega) (by omega))]
  exact uh HM
 have HE := hide (endLine_any (BA word) m wC.drew (by rw [BA_size]; omega) hmU (by have := (hqC.below bU hqC.lt).lt; omega))
 have HU := hide hU
 have HG1 : Hid (GrownS wB wC.drew (fun y => b ≤ y)) := hide ((uh HG1').trans (gsb bU))
 clear hU hqC bU hmU HG1'
 refine wp_region_held_drew (S := fun w' => w'.cell? ⟨q, 1, none⟩ = some (.string ⟨#[60, 60]⟩)) (by kernel_rfl) (by assumption) (fun hHeld => ?_)
 refine tk 0 (v := ?_) ?_ ?_
 rotate_left
 ·intro w hSw; (try dsimp only at hSw); go_simp; (try with_reducible rfl)
 go_frame
 refine tk 1 (v := ?_) ?_ ?_
 rotate_left
 ·intro w hSw; (try dsimp only at hSw); go_simp; (try with_reducible rfl)
 go_frame
 refine tk 2 (v := ?_) ?_ ?_
 rotate_left
 ·intro w hSw; (try dsimp only at hSw); go_simp; (try with_reducible rfl)
 go_frame
 refine tk 3 (v := ?_) ?_ ?_
 rotate_left
 ·intro w hSw; (try dsimp only at hSw); go_simp; (try with_reducible rfl)
 go_frame
 refine tk 5 (v := ?_) ?_ ?_
 rotate_left
 ·intro w hSw; (try dsimp only at hSw); go_simp; (try with_reducible rfl)
 go_frame
 refine tk 6 (v := ?_) ?_ ?_
 rotate_left
 ·intro w hSw; (try dsimp only at hSw); go_simp; (try with_reducible rfl)
 go_frame
 refine tk 8 (v := ?_) ?_ ?_
 rotate_left
 ·intro w hSw; (try dsimp only at hSw); go_simp; (try with_reducible rfl)
 go_frame
 refine tk 9 (v := ?_) ?_ ?_
 rotate_left
 ·intro w hSw; (try dsimp only at hSw); go_simp; (try with_reducible rfl)
 go_frame
 refine tk 10 (v := ?_) ?_ ?_
 rotate_left
 ·intro w hSw; (try dsimp only at hSw); go_simp; (try with_reducible rfl)
 go_frame
 refine tk 11 (v := ?_) ?_ ?_
 rotate_left
 ·intro w hSw; (try dsimp only at hSw); go_simp; (try with_reducible rfl)
 go_frame
 refine tk 12 (v := ?_) ?_ ?_
 rotate_left
 ·intro w hSw; (try dsimp only at hSw); go_simp; (try with_reducible rfl)
 go_frame
 refine wpAnyH_ready (rs := [4, 7]) (by kernel_rfl) (by simp) ?_
 refine AllReadyH.cons rfl (fun KK hKK => ?_) (AllReadyH.cons rfl (fun KK hKK => ?_) AllReadyH.nil)
 focus
  go_simp
  refine hKK.out _ _ (by assumption) (fun hHeld => ?_)
  clear hKK KK
  try go_frame
  refine rd1 7 (fun KK hKK => ?_)
  go_simp
  refine (uh HE).mono ?_
  rintro e w2 ⟨rfl, bb2⟩
  have h2 := (uh HU).below bb2 hbU
  have y1 : w2.cell? ⟨q, 1, none⟩ = some (.string ⟨#[60, 60]⟩) := (uh HQ).2 w2 bb2
  have d6 : w2.cell? ⟨b, 6, none⟩ = some (.slice ua ks.length uc) := h2.rdr.blk.cell 6 (by simp)
  have HG2 := hide (gsb (S := fun y => b ≤ y) bb2)
  have H2 := hide h2
  clear h2 bb2 HE
  refine hKK.out _ _ (by assumption) (fun hHeld => ?_)
  clear hKK KK
  try go_frame
  refine tk 13 (v := ?_) ?_ ?_
  rotate_left
  ·intro w hSw; (try dsimp only at hSw); go_simp; (try with_reducible rfl)
  go_frame
  refine rd1 14 (fun KK hKK => ?_)
  go_simp
  have d6a : (w2.alloc (.cells #[.pointer (some ⟨q, 0, none⟩), .string (BA (endL word)), .bool false] 77)).cell? ⟨b, 6, none⟩ = some (.slice ua ks.length uc) := ((uh H2).rdr.blk.alloc _).cell 6 (by simp)
  have y2 : (w2.alloc (.cells #[.pointer (some ⟨q, 0, none⟩), .string (BA (endL word)), .bool false] 77)).cell? ⟨q, 1, none⟩ = some (.string ⟨#[60, 60]⟩) := cell_alloc y1 _
  refine hKK.out _ _ (by assumption) (fun hHeld => ?_)
  clear hKK KK
  try go_frame
  refine rd1 15 (fun KK hKK => ?_)
  go_simp
  have d6b : ((w2.alloc (.cells #[.pointer (some ⟨q, 0, none⟩), .string (BA (endL word)), .bool false] 77)).alloc (.cells #[.pointer (some ⟨w2.heap.size, 0, none⟩)] 78)).cell? ⟨b, 6, none⟩ = some (.slice ua ks.length uc) := (((uh H2).rdr.blk.alloc _).alloc _).cell 6 (by simp)
  have y3 : ((w2.alloc (.cells #[.pointer (some ⟨q, 0, none⟩), .string (BA (endL word)), .bool false] 77)).alloc (.cells #[.pointer (some ⟨w2.heap.size, 0, none⟩)] 78)).cell? ⟨q, 1, none⟩ = some (.string ⟨#[60, 60]⟩) := cell_alloc y2 _
  refine hKK.out _ _ (by assumption) (fun hHeld => ?_)
  clear hKK KK
  try go_frame
  refine rd1 16 (fun KK hKK => ?_)
  refine step_append_lies _ (by rfl) _ _ _ (by rfl) (b + 1) 78 i0 (.pointer none) 1 8 und_wts hi hz0 hz1 hz2 rfl (by decide) (.slice ua ks.length uc) ks.length (ptrs ks) (by simp [Act.eval]) (World.ownsRow.alloc (World.ownsRow.alloc (uh H2).wts.row _) _) ⟨w2.heap.size + 1, 0, none⟩ 1 1 [.pointer (some ⟨w2.heap.size, 0, none⟩)] (by simp [Act.eval]) rfl ?_ ?_ (by decide) (by unfold maxLen; omega) (by omega) (by have := (uh H2).rdr.blk.lt; simp; omega) (w2.heap.size + 2) (by simp) ?_
  ·exact one_ptr2
  ·intro x hx; simp at hx; subst hx; rfl
  intro gg cg w3 hown3 hgrow hat hlt3
  have hf := await_fin (uh H2) hpi hown3 hgrow
  have y4 : w3.cell? ⟨q, 1, none⟩ = some (.string ⟨#[60, 60]⟩) := (tok_kept (uh H2).wts.row ((uh H2).toks.blk _ q _ hpi (uh HTI)).2 hgrow).cell 1 (by rw [← uh HTX]; rfl)
  have d7 := hf.1
  have d8 := hf.2.1
  have y5 : (w3.setCell ⟨b, 6, none⟩ (.slice (some ⟨gg, 0, none⟩) (ks.length + 1) cg)).cell? ⟨q, 1, none⟩ = some (.string ⟨#[60, 60]⟩) := by rw [World.cell?_of_block (Below.heap_setCell w3 ⟨b, 6, none⟩ _ q (by show q ≠ b; omega))]; exact y4
  have HF := hide hf.2.2
  clear hown3 hgrow hat hf
  refine hKK.out _ _ (by assumption) (fun hHeld => ?_)
  clear hKK KK
  try go_frame
  refine tk 17 (v := ?_) ?_ ?_
  rotate_left
  ·intro w hSw; (try dsimp only at hSw); go_simp; (try with_reducible rfl)
  go_frame
  refine tk 18 (v := ?_) ?_ ?_
  rotate_left
  ·intro w hSw; (try dsimp only at hSw); go_simp; (try with_reducible rfl)
  go_frame
  refine rd1 19 (fun KK hKK => ?_)
  go_simp
  refine hKK.out _ _ (by assumption) (fun hHeld => ?_)
  clear hKK KK
  try go_frame
  clear hHeld
  refine wpAnyH_done (by kernel_rfl) ?_ _
 rotate_left
 focus
  go_simp
  refine (uh HE).mono ?_
  rintro e w2 ⟨rfl, bb2⟩
  have h2 := (uh HU).below bb2 hbU
  have y1 : w2.cell? ⟨q, 1, none⟩ = some (.string ⟨#[60, 60]⟩) := (uh HQ).2 w2 bb2
  have d6 : w2.cell? ⟨b, 6, none⟩ = some (.slice ua ks.length uc) := h2.rdr.blk.cell 6 (by simp)
  have HG2 := hide (gsb (S := fun y => b ≤ y) bb2)
  have H2 := hide h2
  clear h2 bb2 HE
  refine hKK.out _ _ (by assumption) (fun hHeld => ?_)
  clear hKK KK
  try go_frame
  refine tk 13 (v := ?_) ?_ ?_
  rotate_left
  ·intro w hSw; (try dsimp only at hSw); go_simp; (try with_reducible rfl)
  go_frame
  refine wpAnyH_ready (rs := [4, 14]) (by kernel_rfl) (by simp) ?_
  refine AllReadyH.cons rfl (fun KK hKK => ?_) (AllReadyH.cons rfl (fun KK hKK => ?_) AllReadyH.nil)
  focus
   go_simp
   refine hKK.out _ _ (by assumption) (fun hHeld => ?_)
   clear hKK KK
   try go_frame
   refine rd1 14 (fun KK hKK => ?_)
   go_simp
   have d6a : (w2.alloc (.cells #[.pointer (some ⟨q, 0, none⟩), .string (BA (endL word)), .bool false] 77)).cell? ⟨b, 6, none⟩ = some (.slice ua ks.length uc) := ((uh H2).rdr.blk.alloc _).cell 6 (by simp)
   have y2 : (w2.alloc (.cells #[.pointer (some ⟨q, 0, none⟩), .string (BA (endL word)), .bool false] 77)).cell? ⟨q, 1, none⟩ = some (.string ⟨#[60, 60]⟩) := cell_alloc y1 _
   refine hKK.out _ _ (by assumption) (fun hHeld => ?_)
   clear hKK KK
   try go_frame
   refine rd1 15 (fun KK hKK => ?_)
   go_simp
   have d6b : ((w2.alloc (.cells #[.pointer (some ⟨q, 0, none⟩), .string (BA (endL word)), .bool false] 77)).alloc (.cells #[.pointer (some ⟨w2.heap.size, 0, none⟩)] 78)).cell? ⟨b, 6, none⟩ = some (.slice ua ks.length uc) := (((uh H2).rdr.blk.alloc _).alloc _).cell 6 (by simp)
   have y3 : ((w2.alloc (.cells #[.pointer (some ⟨q, 0, none⟩), .string (BA (endL word)), .bool false] 77)).alloc (.cells #[.pointer (some ⟨w2.heap.size, 0, none⟩)] 78)).cell? ⟨q, 1, none⟩ = some (.string ⟨#[60, 60]⟩) := cell_alloc y2 _
   refine hKK.out _ _ (by assumption) (fun hHeld => ?_)
   clear hKK KK
   try go_frame
   refine rd1 16 (fun KK hKK => ?_)
   refine step_append_lies _ (by rfl) _ _ _ (by rfl) (b + 1) 78 i0 (.pointer none) 1 8 und_wts hi hz0 hz1 hz2 rfl (by decide) (.slice ua ks.length uc) ks.length (ptrs ks) (by simp [Act.eval]) (World.ownsRow.alloc (World.ownsRow.alloc (uh H2).wts.row _) _) ⟨w2.heap.size + 1, 0, none⟩ 1 1 [.pointer (some ⟨w2.heap.size, 0, none⟩)] (by simp [Act.eval]) rfl ?_ ?_ (by decide) (by unfold maxLen; omega) (by omega) (by have := (uh H2).rdr.blk.lt; simp; omega) (w2.heap.size + 2) (by simp) ?_
   ·exact one_ptr2
   ·intro x hx; simp at hx; subst hx; rfl
   intro gg cg w3 hown3 hgrow hat hlt3
   have hf := await_fin (uh H2) hpi hown3 hgrow
   have y4 : w3.cell? ⟨q, 1, none⟩ = some (.string ⟨#[60, 60]⟩) := (tok_kept (uh H2).wts.row ((uh H2).toks.blk _ q _ hpi (uh HTI)).2 hgrow).cell 1 (by rw [← uh HTX]; rfl)
   have d7 := hf.1
   have d8 := hf.2.1
   have y5 : (w3.setCell ⟨b, 6, none⟩ (.slice (some ⟨gg, 0, none⟩) (ks.length + 1) cg)).cell? ⟨q, 1, none⟩ = some (.string ⟨#[60, 60]⟩) := by rw [World.cell?_of_block (Below.heap_setCell w3 ⟨b, 6, none⟩ _ q (by show q ≠ b; omega))]; exact y4
   have HF := hide hf.2.2
   clear hown3 hgrow hat hf
   refine hKK.out _ _ (by assumption) (fun hHeld => ?_)
   clear hKK KK
   try go_frame
   refine tk 17 (v := ?_) ?_ ?_
   rotate_left
   ·intro w hSw; (try dsimp only at hSw); go_simp; (try with_reducible rfl)
   go_frame
   refine tk 18 (v := ?_) ?_ ?_
   rotate_left
   ·intro w hSw; (try dsimp only at hSw); go_simp; (try with_reducible rfl)
   go_frame
   refine rd1 19 (fun KK hKK => ?_)
   go_simp
   refine hKK.out _ _ (by assumption) (fun hHeld => ?_)
   clear hKK KK
   try go_frame
   clear hHeld
   refine wpAnyH_done (by kernel_rfl) ?_ _
  rotate_left
  focus
   go_simp
   have d6a : (w2.alloc (.cells #[.pointer (some ⟨q, 0, none⟩), .string (BA (endL word)), .bool false] 77)).cell? ⟨b, 6, none⟩ = some (.slice ua ks.length uc) := ((uh H2).rdr.blk.alloc _).cell 6 (by simp)
   have y2 : (w2.alloc (.cells #[.pointer (some ⟨q, 0, none⟩), .string (BA (endL word)), .bool false] 77)).cell? ⟨q, 1, none⟩ = some (.string ⟨#[60, 60]⟩) := cell_alloc y1 _
   refine hKK.out _ _ (by assumption) (fun hHeld => ?_)
   clear hKK KK
   try go_frame
   refine wpAnyH_ready (rs := [4, 15]) (by kernel_rfl) (by simp) ?_
   refine AllReadyH.cons rfl (fun KK hKK => ?_) (AllReadyH.cons rfl (fun KK hKK => ?_) AllReadyH.nil)
   focus
    go_simp
    refine hKK.out _ _ (by assumption) (fun hHeld => ?_)
    clear hKK KK
    try go_frame
    refine rd1 15 (fun KK hKK => ?_)
    go_simp
    have d6b : ((w2.alloc (.cells #[.pointer (some ⟨q, 0, none⟩), .string (BA (endL word)), .bool false] 77)).alloc (.cells #[.pointer (some ⟨w2.heap.size, 0, none⟩)] 78)).cell? ⟨b, 6, none⟩ = some (.slice ua ks.length uc) := (((uh H2).rdr.blk.alloc _).alloc _).cell 6 (by simp)
    have y3 : ((w2.alloc (.cells #[.pointer (some ⟨q, 0, none⟩), .string (BA (endL word)), .bool false] 77)).alloc (.cells #[.pointer (some ⟨w2.heap.size, 0, none⟩)] 78)).cell? ⟨q, 1, none⟩ = some (.string ⟨#[60, 60]⟩) := cell_alloc y2 _
    refine hKK.out _ _ (by assumption) (fun hHeld => ?_)
    clear hKK KK
    try go_frame
    refine rd1 16 (fun KK hKK => ?_)
    refine step_append_lies _ (by rfl) _ _ _ (by rfl) (b + 1) 78 i0 (.pointer none) 1 8 und_wts hi hz0 hz1 hz2 rfl (by decide) (.slice ua ks.length uc) ks.length (ptrs ks) (by simp [Act.eval]) (World.ownsRow.alloc (World.ownsRow.alloc (uh H2).wts.row _) _) ⟨w2.heap.size + 1, 0, none⟩ 1 1 [.pointer (some ⟨w2.heap.size, 0, none⟩)] (by simp [Act.eval]) rfl ?_ ?_ (by decide) (by unfold maxLen; omega) (by omega) (by have := (uh H2).rdr.blk.lt; simp; omega) (w2.heap.size + 2) (by simp) ?_
    ·exact one_ptr2
    ·intro x hx; simp at hx; subst hx; rfl
    intro gg cg w3 hown3 hgrow hat hlt3
    have hf := await_fin (uh H2) hpi hown3 hgrow
    have y4 : w3.cell? ⟨q, 1, none⟩ = some (.string ⟨#[60, 60]⟩) := (tok_kept (uh H2).wts.row ((uh H2).toks.blk _ q _ hpi (uh HTI)).2 hgrow).cell 1 (by rw [← uh HTX]; rfl)
    have d7 := hf.1
    have d8 := hf.2.1
    have y5 : (w3.setCell ⟨b, 6, none⟩ (.slice (some ⟨gg, 0, none⟩) (ks.length + 1) cg)).cell? ⟨q, 1, none⟩ = some (.string ⟨#[60, 60]⟩) := by rw [World.cell?_of_block (Below.heap_setCell w3 ⟨b, 6, none⟩ _ q (by show q ≠ b; omega))]; exact y4
    have HF := hide hf.2.2
    clear hown3 hgrow hat hf
    refine hKK.out _ _ (by assumption) (fun hHeld => ?_)
    clear hKK KK
    try go_frame
    refine tk 17 (v := ?_) ?_ ?_
    rotate_left
    ·intro w hSw; (try dsimp only at hSw); go_simp; (try with_reducible rfl)
    go_frame
    refine tk 18 (v := ?_) ?_ ?_
    rotate_left
    ·intro w hSw; (try dsimp only at hSw); go_simp; (try with_reducible rfl)
    go_frame
    refine rd1 19 (fun KK hKK => ?_)
    go_simp
    refine hKK.out _ _ (by assumption) (fun hHeld => ?_)
    clear hKK KK
    try go_frame
    clear hHeld
    refine wpAnyH_done (by kernel_rfl) ?_ _
   rotate_left
   focus
    go_simp
    have d6b : ((w2.alloc (.cells #[.pointer (some ⟨q, 0, none⟩), .string (BA (endL word)), .bool false] 77)).alloc (.cells #[.pointer (some ⟨w2.heap.size, 0, none⟩)] 78)).cell? ⟨b, 6, none⟩ = some (.slice ua ks.length uc) := (((uh H2).rdr.blk.alloc _).alloc _).cell 6 (by simp)
    have y3 : ((w2.alloc (.cells #[.pointer (some ⟨q, 0, none⟩), .string (BA (endL word)), .bool false] 77)).alloc (.cells #[.pointer (some ⟨w2.heap.size, 0, none⟩)] 78)).cell? ⟨q, 1, none⟩ = some (.string ⟨#[60, 60]⟩) := cell_alloc y2 _
    refine hKK.out _ _ (by assumption) (fun hHeld => ?_)
    clear hKK KK
    try go_frame
    refine rd1 4 (fun KK hKK => ?_)
    go_simp
    refine hKK.out _ _ (by assumption) (fun hHeld => ?_)
    clear hKK KK
    try go_frame
    refine rd1 16 (fun KK hKK => ?_)
    refine step_append_lies _ (by rfl) _ _ _ (by rfl) (b + 1) 78 i0 (.pointer none) 1 8 und_wts hi hz0 hz1 hz2 rfl (by decide) (.slice ua ks.length uc) ks.length (ptrs ks) (by simp [Act.eval]) (World.ownsRow.alloc (World.ownsRow.alloc (uh H2).wts.row _) _) ⟨w2.heap.size + 1, 0, none⟩ 1 1 [.pointer (some ⟨w2.heap.size, 0, none⟩)] (by simp [Act.eval]) rfl ?_ ?_ (by decide) (by unfold maxLen; omega) (by omega) (by have := (uh H2).rdr.blk.lt; simp; omega) (w2.heap.size + 2) (by simp) ?_
    ·exact one_ptr2
    ·intro x hx; simp at hx; subst hx; rfl
    intro gg cg w3 hown3 hgrow hat hlt3
    have hf := await_fin (uh H2) hpi hown3 hgrow
    have y4 : w3.cell? ⟨q, 1, none⟩ = some (.string ⟨#[60, 60]⟩) := (tok_kept (uh H2).wts.row ((uh H2).toks.blk _ q _ hpi (uh HTI)).2 hgrow).cell 1 (by rw [← uh HTX]; rfl)
    have d7 := hf.1
    have d8 := hf.2.1
    have y5 : (w3.setCell ⟨b, 6, none⟩ (.slice (some ⟨gg, 0, none⟩) (ks.length + 1) cg)).cell? ⟨q, 1, none⟩ = some (.string ⟨#[60, 60]⟩) := by rw [World.cell?_of_block (Below.heap_setCell w3 ⟨b, 6, none⟩ _ q (by show q ≠ b; omega))]; exact y4
    have HF := hide hf.2.2
    clear hown3 hgrow hat hf
    refine hKK.out _ _ (by assumption) (fun hHeld => ?_)
    clear hKK KK
    try go_frame
    refine tk 17 (v := ?_) ?_ ?_
    rotate_left
    ·intro w hSw; (try dsimp only at hSw); go_simp; (try with_reducible rfl)
    go_frame
    refine tk 18 (v := ?_) ?_ ?_
    rotate_left
    ·intro w hSw; (try dsimp only at hSw); go_simp; (try with_reducible rfl)
    go_frame
    refine rd1 19 (fun KK hKK => ?_)
    go_simp
    refine hKK.out _ _ (by assumption) (fun hHeld => ?_)
    clear hKK KK
    try go_frame
    clear hHeld
    refine wpAnyH_done (by kernel_rfl) ?_ _
   rotate_left
  rotate_left 2
 rotate_left 3
 all_goals
  clear d7 d8
  go_wp2
  refine bodyPost_end (res0 rfl _ _) rfl ?_
  exact ⟨rfl, _, _, by rw [uh HAW]; exact (uh HF).1, (uh HG0).trans ((uh HG1).trans ((uh HG2).trans (uh HF).2))⟩
theorem await_dash (w : World) (b : Nat) (v u : Value) (s : ByteArray) (r : Nat) (ps ks : List Nat) (st : LS) (word : List UInt8) (m : Int) (q : Nat) (t : Tok) (h : LexAt w b v u s r ps ks st) (hw : st.wait.length ≤ 100000) (hl : st.toks.length ≤ 100000) (hwd : word.length ≤ 100000) (hm : w.cell? ⟨1, 0, none⟩ = some (.int .i64 m)) (hb1 : 1 < b) (hp : ps[st.toks.length - 1]? = some q) (ht : st.toks[st.toks.length - 1]? = some t) (htx : t.text = ⟨#[60, 60, 45]⟩) :
 Calls Tryz.prog 74 #[.pointer (some ⟨b, 0, none⟩), .string (BA word)] w fun e w' => e = .returned (.tuple #[]) ∧ ∃ u' ks', LexAt w' b v u' s r ps ks' (awaitL st word) ∧ GrownS w w' (fun y => b ≤ y) := by
 obtain ⟨i0, hi, hz0, hz1, hz2⟩ := info_of info_wtp
 obtain ⟨n, hn⟩ : ∃ n, n = st.toks.length - 1 := ⟨_, rfl⟩
 have hlen1 : 0 < st.toks.length := by
  have := (List.getElem?_eq_some_iff.1 ht).1
  omega
 rw [← hn] at hp ht
 obtain ⟨B, hB⟩ : ∃ B, B = word.any (fun c => c == 92 || c == 39 || c == 34) := ⟨_, rfl⟩
 obtain ⟨st1, hst1⟩ : ∃ x : LS, x = { st with toks := st.toks.modify n (fun t => { t with raw := B }) } := ⟨_, rfl⟩
 have HAW : Hid (awaitL st word = { st1 with wait := st1.wait ++ [⟨n, endL word, true⟩] }) := hide (by
  unfold awaitL
  have hgl : st.toks.getLast? = some t := by rw [List.getLast?_eq_getElem?, ← hn]; exact ht
  rw [hgl]
  have e : t.text = BA [60, 60, 45] := by rw [htx]; rfl
  have e1 : (t.text = BA [60, 60] ∨ t.text = BA [60, 60, 45]) := by rw [e]; first | exact .inl rfl | exact .inr rfl
  simp only [e1, if_true, hst1, ← hn, ← hB]
  rw [e, show (BA [60, 60, 45] == BA [60, 60, 45]) = true from by decide])
 obtain ⟨hbq, hqb⟩ := h.toks.blk n q t hp ht
 obtain ⟨ad, cap, hv, hsh⟩ := ptr_shape h.toks.row rfl
 obtain ⟨g, hg0, hgl, hcg⟩ := hsh n q hp
 subst hg0
 have hpsl : ps.length = n + 1 := by rw [h.toks.len]; omega
 rw [hpsl] at hv
 subst hv
 obtain ⟨ua, uc, hu, _⟩ := ptr_shape h.wts.row rfl
 subst hu
 have hks : ks.length ≤ 100000 := by rw [h.wts.len]; exact hw
 have c5 : w.cell? ⟨b, 5, none⟩ = some (.slice (some ⟨g, 0, none⟩) (n + 1) cap) := h.rdr.blk.cell 5 (by simp)
 have q1 : w.cell? ⟨q, 1, none⟩ = some (.string ⟨#[60, 60, 45]⟩) := by rw [← htx]; exact hqb.cell 1 rfl
 have hnn : n + 1 ≤ 100000 := by omega
 have hwr : IntKind.i64.wrap (((n + 1 : Nat) : Int) - 1) = (n : Int) := by rw [IntKind.wrap_i64]; omega
 have hz : (((n + 1 : Nat) : Int) == 0) = false := by rw [beq_eq_false_iff_ne]; omega
 have hidx : (n : Int) < ((n + 1 : Nat) : Int) := by omega
 have hn0 : (0 : Int) ≤ (n : Int) := by omega
 have HH := hide h
 have HM := hide hm
 have HQB := hide hqb
 have HTT := hide ht
 have HPP := hide hp
 have HTX := hide htx
 have HST := hide hst1
 have HBB := hide hB
 have hbl := h.rdr.blk.lt
 clear h hm hqb ht hp htx hst1 hB hn hsh hgl hlen1 hpsl hl hw
 have HCA := hide (contains3_any word hwd)
 go_enter Tryz.func74, Tryz.ntmps74
 go_wp2_with fail
 go_quiet (fail)
 obtain ⟨wA, hwA⟩ : ∃ x, x = w.drewN nq := ⟨_, rfl⟩
 have gA : GrownS w wA (fun _ => False) := by rw [hwA]; exact GrownS.of (gdn w nq) (by simp)
 have qA : wA.cell? ⟨q, 1, none⟩ = some (.string ⟨#[60, 60, 45]⟩) := by rw [hwA]; exact q1
 rw [← hwA]
 have BA0 : Below w.heap.size w wA := by rw [hwA]; exact bdr w nq
 have HBA := hide BA0
 clear hwA c5 hcg gA BA0
 go_wp2_with fail
 refine (uh HCA wA).mono ?_
 rintro en wB ⟨rfl, bB⟩
 rw [← uh HBB]
 have hA := (uh HH).below (uh HBA) (ler _)
 have hBst := hA.below bB (ler _)
 have hqB := (uh HQB).grownS (gsb (S := fun _ => False) (uh HBA)) (fun e => e)
 have hqB := hqB.grownS (gsb (S := fun _ => False) bB) (fun e => e)
 have hC : LexAt (wB.setCell ⟨q, 4, none⟩ (.bool B)) b (.slice (some ⟨g, 0, none⟩) (n + 1) cap) (.slice ua ks.length uc) s r ps ks st1 := by
  have gq : GrownS wB (wB.setCell ⟨q, 4, none⟩ (.bool B)) (fun y => y = q) := GrownS.of (gsc wB ⟨q, 4, none⟩ _) (fun x e => by simpa using e)
  refine ⟨?_, ?_, ?_, ?_, ?_⟩
  ·rw [uh HST]
   exact hBst.rdr.grownS gq (by show ¬ b = q; omega)
  ·rw [uh HST]
   exact hBst.toks.write (c := 4) (x := .bool B) (fun t => { t with raw := B }) (uh HPP) (uh HTT) rfl
  ·rw [uh HST]
   exact hBst.wts.past hBst.rdr.blk hqB (gq.mono (fun _ _ e => .inr e))
  ·rw [uh HST]; exact hBst.rest
  ·rw [uh HST]; exact hBst.zero
 have HG0 : Hid (GrownS w wB (fun y => b ≤ y)) := hide ((gsb (uh HBA)).trans (gsb bB))
 have q4 : wB.cell? ⟨q, 4, none⟩ = some (.bool t.raw) := hqB.cell 4 rfl
 have z4 := hqB.frozen 4
 have HG1' : Hid (GrownS wB (wB.setCell ⟨q, 4, none⟩ (.bool B)) (fun y => b ≤ y)) := hide (GrownS.of (gsc wB ⟨q, 4, none⟩ _) (fun x e => (show x = q by simpa using e) ▸ (by omega : b ≤ q)))
 have HC := hide hC
 clear hA hBst hqB hC bB qA
 go_wp2_with fail
 obtain ⟨wC, hwC⟩ : ∃ x, x = wB.setCell ⟨q, 4, none⟩ (.bool B) := ⟨_, rfl⟩
 rw [← hwC] at HC HG1'
 rw [← hwC]
 clear hwC q4 z4
 have d6 : wC.cell? ⟨b, 6, none⟩ = some (.slice ua ks.length uc) := (uh HC).rdr.blk.cell 6 (by simp)
 have HTI : Hid (st1.toks[n]? = some { t with raw := B }) := hide (by rw [uh HST]; simp [uh HTT])
 have hpi := uh HPP
 have hqC := ((uh HC).toks.blk n q _ hpi (uh HTI)).2
 have y0 : wC.cell? ⟨q, 1, none⟩ = some (.string ⟨#[60, 60, 45]⟩) := hqC.cell 1 (by rw [← uh HTX]; rfl)
 have bU : Below wC.heap.size wC wC.drew := bdr wC 1
 have hU := (uh HC).below bU (ler _)
 have hbU : wC.drew.heap.size ≤ wC.drew.heap.size := ler _
 have HQ : Hid (True ∧ ∀ w2, Below wC.drew.heap.size wC.drew w2 → w2.cell? ⟨q, 1, none⟩ = some (.string ⟨#[60, 60, 45]⟩)) := hide ⟨trivial, fun w2 hb2 => by
  rw [World.cell?_of_block (hb2.block q (hqC.below bU hqC.lt).lt), World.cell?_of_block (bU.block q hqC.lt)]
  exact y0⟩
 have hmU : wC.drew.cell? ⟨1, 0, none⟩ = some (.int .i64 m) := by
  rw [World.cell?_of_block (bU.block 1 (by have := hqC.lt; omega)), World.cell?_of_block ((uh HG1').block 1 (by have := (uh HG0).size; omega) (by omega)), World.cell?_of_block ((uh HG0).block 1 (by omega) (by omega))]
  exact uh HM
 have HE := hide (endLine_any (BA word) m wC.drew (by rw [BA_size]; omega) hmU (by have := (hqC.below bU hqC.lt).lt; omega))
 have HU := hide hU
 have HG1 : Hid (GrownS wB wC.drew (fun y => b ≤ y)) := hide ((uh HG1').trans (gsb bU))
 clear hU hqC bU hmU HG1'
 refine wp_region_held_drew (S := fun w' => w'.cell? ⟨q, 1, none⟩ = some (.string ⟨#[60, 60, 45]⟩)) (by kernel_rfl) (by assumption) (fun hHeld => ?_)
 refine tk 0 (v := ?_) ?_ ?_
 rotate_left
 ·intro w hSw; (try dsimp only at hSw); go_simp; (try with_reducible rfl)
 go_frame
 refine tk 1 (v := ?_) ?_ ?_
 rotate_left
 ·intro w hSw; (try dsimp only at hSw); go_simp; (try with_reducible rfl)
 go_frame
 refine tk 2 (v := ?_) ?_ ?_
 rotate_left
 ·intro w hSw; (try dsimp only at hSw); go_simp; (try with_reducible rfl)
 go_frame
 refine tk 3 (v := ?_) ?_ ?_
 rotate_left
 ·intro w hSw; (try dsimp only at hSw); go_simp; (try with_reducible rfl)
 go_frame
 refine tk 5 (v := ?_) ?_ ?_
 rotate_left
 ·intro w hSw; (try dsimp only at hSw); go_simp; (try with_reducible rfl)
 go_frame
 refine tk 6 (v := ?_) ?_ ?_
 rotate_left
 ·intro w hSw; (try dsimp only at hSw); go_simp; (try with_reducible rfl)
 go_frame
 refine tk 8 (v := ?_) ?_ ?_
 rotate_left
 ·intro w hSw; (try dsimp only at hSw); go_simp; (try with_reducible rfl)
 go_frame
 refine tk 9 (v := ?_) ?_ ?_
 rotate_left
 ·intro w hSw; (try dsimp only at hSw); go_simp; (try with_reducible rfl)
 go_frame
 refine tk 10 (v := ?_) ?_ ?_
 rotate_left
 ·intro w hSw; (try dsimp only at hSw); go_simp; (try with_reducible rfl)
 go_frame
 refine tk 11 (v := ?_) ?_ ?_
 rotate_left
 ·intro w hSw; (try dsimp only at hSw); go_simp; (try with_reducible rfl)
 go_frame
 refine tk 12 (v := ?_) ?_ ?_
 rotate_left
 ·intro w hSw; (try dsimp only at hSw); go_simp; (try with_reducible rfl)
 go_frame
 refine wpAnyH_ready (rs := [4, 7]) (by kernel_rfl) (by simp) ?_
 refine AllReadyH.cons rfl (fun KK hKK => ?_) (AllReadyH.cons rfl (fun KK hKK => ?_) AllReadyH.nil)
 focus
  go_simp
  refine hKK.out _ _ (by assumption) (fun hHeld => ?_)
  clear hKK KK
  try go_frame
  refine rd1 7 (fun KK hKK => ?_)
  go_simp
  refine (uh HE).mono ?_
  rintro e w2 ⟨rfl, bb2⟩
  have h2 := (uh HU).below bb2 hbU
  have y1 : w2.cell? ⟨q, 1, none⟩ = some (.string ⟨#[60, 60, 45]⟩) := (uh HQ).2 w2 bb2
  have d6 : w2.cell? ⟨b, 6, none⟩ = some (.slice ua ks.length uc) := h2.rdr.blk.cell 6 (by simp)
  have HG2 := hide (gsb (S := fun y => b ≤ y) bb2)
  have H2 := hide h2
  clear h2 bb2 HE
  refine hKK.out _ _ (by assumption) (fun hHeld => ?_)
  clear hKK KK
  try go_frame
  refine tk 13 (v := ?_) ?_ ?_
  rotate_left
  ·intro w hSw; (try dsimp only at hSw); go_simp; (try with_reducible rfl)
  go_frame
  refine rd1 14 (fun KK hKK => ?_)
  go_simp
  have d6a : (w2.alloc (.cells #[.pointer (some ⟨q, 0, none⟩), .string (BA (endL word)), .bool true] 77)).cell? ⟨b, 6, none⟩ = some (.slice ua ks.length uc) := ((uh H2).rdr.blk.alloc _).cell 6 (by simp)
  have y2 : (w2.alloc (.cells #[.pointer (some ⟨q, 0, none⟩), .string (BA (endL word)), .bool true] 77)).cell? ⟨q, 1, none⟩ = some (.string ⟨#[60, 60, 45]⟩) := cell_alloc y1 _
  refine hKK.out _ _ (by assumption) (fun hHeld => ?_)
  clear hKK KK
  try go_frame
  refine rd1 15 (fun KK hKK => ?_)
  go_simp
  have d6b : ((w2.alloc (.cells #[.pointer (some ⟨q, 0, none⟩), .string (BA (endL word)), .bool true] 77)).alloc (.cells #[.pointer (some ⟨w2.heap.size, 0, none⟩)] 78)).cell? ⟨b, 6, none⟩ = some (.slice ua ks.length uc) := (((uh H2).rdr.blk.alloc _).alloc _).cell 6 (by simp)
  have y3 : ((w2.alloc (.cells #[.pointer (some ⟨q, 0, none⟩), .string (BA (endL word)), .bool true] 77)).alloc (.cells #[.pointer (some ⟨w2.heap.size, 0, none⟩)] 78)).cell? ⟨q, 1, none⟩ = some (.string ⟨#[60, 60, 45]⟩) := cell_alloc y2 _
  refine hKK.out _ _ (by assumption) (fun hHeld => ?_)
  clear hKK KK
  try go_frame
  refine rd1 16 (fun KK hKK => ?_)
  refine step_append_lies _ (by rfl) _ _ _ (by rfl) (b + 1) 78 i0 (.pointer none) 1 8 und_wts hi hz0 hz1 hz2 rfl (by decide) (.slice ua ks.length uc) ks.length (ptrs ks) (by simp [Act.eval]) (World.ownsRow.alloc (World.ownsRow.alloc (uh H2).wts.row _) _) ⟨w2.heap.size + 1, 0, none⟩ 1 1 [.pointer (some ⟨w2.heap.size, 0, none⟩)] (by simp [Act.eval]) rfl ?_ ?_ (by decide) (by unfold maxLen; omega) (by omega) (by have := (uh H2).rdr.blk.lt; simp; omega) (w2.heap.size + 2) (by simp) ?_
  ·exact one_ptr2
  ·intro x hx; simp at hx; subst hx; rfl
  intro gg cg w3 hown3 hgrow hat hlt3
  have hf := await_fin (uh H2) hpi hown3 hgrow
  have y4 : w3.cell? ⟨q, 1, none⟩ = some (.string ⟨#[60, 60, 45]⟩) := (tok_kept (uh H2).wts.row ((uh H2).toks.blk _ q _ hpi (uh HTI)).2 hgrow).cell 1 (by rw [← uh HTX]; rfl)
  have d7 := hf.1
  have d8 := hf.2.1
  have y5 : (w3.setCell ⟨b, 6, none⟩ (.slice (some ⟨gg, 0, none⟩) (ks.length + 1) cg)).cell? ⟨q, 1, none⟩ = some (.string ⟨#[60, 60, 45]⟩) := by rw [World.cell?_of_block (Below.heap_setCell w3 ⟨b, 6, none⟩ _ q (by show q ≠ b; omega))]; exact y4
  have HF := hide hf.2.2
  clear hown3 hgrow hat hf
  refine hKK.out _ _ (by assumption) (fun hHeld => ?_)
  clear hKK KK
  try go_frame
  refine tk 17 (v := ?_) ?_ ?_
  rotate_left
  ·intro w hSw; (try dsimp only at hSw); go_simp; (try with_reducible rfl)
  go_frame
  refine tk 18 (v := ?_) ?_ ?_
  rotate_left
  ·intro w hSw; (try dsimp only at hSw); go_simp; (try with_reducible rfl)
  go_frame
  refine rd1 19 (fun KK hKK => ?_)
  go_simp
  refine hKK.out _ _ (by assumption) (fun hHeld => ?_)
  clear hKK KK
  try go_frame
  clear hHeld
  refine wpAnyH_done (by kernel_rfl) ?_ _
 rotate_left
 focus
  go_simp
  refine (uh HE).mono ?_
  rintro e w2 ⟨rfl, bb2⟩
  have h2 := (uh HU).below bb2 hbU
  have y1 : w2.cell? ⟨q, 1, none⟩ = some (.string ⟨#[60, 60, 45]⟩) := (uh HQ).2 w2 bb2
  have d6 : w2.cell? ⟨b, 6, none⟩ = some (.slice ua ks.length uc) := h2.rdr.blk.cell 6 (by simp)
  have HG2 := hide (gsb (S := fun y => b ≤ y) bb2)
  have H2 := hide h2
  clear h2 bb2 HE
  refine hKK.out _ _ (by assumption) (fun hHeld => ?_)
  clear hKK KK
  try go_frame
  refine tk 13 (v := ?_) ?_ ?_
  rotate_left
  ·intro w hSw; (try dsimp only at hSw); go_simp; (try with_reducible rfl)
  go_frame
  refine wpAnyH_ready (rs := [4, 14]) (by kernel_rfl) (by simp) ?_
  refine AllReadyH.cons rfl (fun KK hKK => ?_) (AllReadyH.cons rfl (fun KK hKK => ?_) AllReadyH.nil)
  focus
   go_simp
   refine hKK.out _ _ (by assumption) (fun hHeld => ?_)
   clear hKK KK
   try go_frame
   refine rd1 14 (fun KK hKK => ?_)
   go_simp
   have d6a : (w2.alloc (.cells #[.pointer (some ⟨q, 0, none⟩), .string (BA (endL word)), .bool true] 77)).cell? ⟨b, 6, none⟩ = some (.slice ua ks.length uc) := ((uh H2).rdr.blk.alloc _).cell 6 (by simp)
   have y2 : (w2.alloc (.cells #[.pointer (some ⟨q, 0, none⟩), .string (BA (endL word)), .bool true] 77)).cell? ⟨q, 1, none⟩ = some (.string ⟨#[60, 60, 45]⟩) := cell_alloc y1 _
   refine hKK.out _ _ (by assumption) (fun hHeld => ?_)
   clear hKK KK
   try go_frame
   refine rd1 15 (fun KK hKK => ?_)
   go_simp
   have d6b : ((w2.alloc (.cells #[.pointer (some ⟨q, 0, none⟩), .string (BA (endL word)), .bool true] 77)).alloc (.cells #[.pointer (some ⟨w2.heap.size, 0, none⟩)] 78)).cell? ⟨b, 6, none⟩ = some (.slice ua ks.length uc) := (((uh H2).rdr.blk.alloc _).alloc _).cell 6 (by simp)
   have y3 : ((w2.alloc (.cells #[.pointer (some ⟨q, 0, none⟩), .string (BA (endL word)), .bool true] 77)).alloc (.cells #[.pointer (some ⟨w2.heap.size, 0, none⟩)] 78)).cell? ⟨q, 1, none⟩ = some (.string ⟨#[60, 60, 45]⟩) := cell_alloc y2 _
   refine hKK.out _ _ (by assumption) (fun hHeld => ?_)
   clear hKK KK
   try go_frame
   refine rd1 16 (fun KK hKK => ?_)
   refine step_append_lies _ (by rfl) _ _ _ (by rfl) (b + 1) 78 i0 (.pointer none) 1 8 und_wts hi hz0 hz1 hz2 rfl (by decide) (.slice ua ks.length uc) ks.length (ptrs ks) (by simp [Act.eval]) (World.ownsRow.alloc (World.ownsRow.alloc (uh H2).wts.row _) _) ⟨w2.heap.size + 1, 0, none⟩ 1 1 [.pointer (some ⟨w2.heap.size, 0, none⟩)] (by simp [Act.eval]) rfl ?_ ?_ (by decide) (by unfold maxLen; omega) (by omega) (by have := (uh H2).rdr.blk.lt; simp; omega) (w2.heap.size + 2) (by simp) ?_
   ·exact one_ptr2
   ·intro x hx; simp at hx; subst hx; rfl
   intro gg cg w3 hown3 hgrow hat hlt3
   have hf := await_fin (uh H2) hpi hown3 hgrow
   have y4 : w3.cell? ⟨q, 1, none⟩ = some (.string ⟨#[60, 60, 45]⟩) := (tok_kept (uh H2).wts.row ((uh H2).toks.blk _ q _ hpi (uh HTI)).2 hgrow).cell 1 (by rw [← uh HTX]; rfl)
   have d7 := hf.1
   have d8 := hf.2.1
   have y5 : (w3.setCell ⟨b, 6, none⟩ (.slice (some ⟨gg, 0, none⟩) (ks.length + 1) cg)).cell? ⟨q, 1, none⟩ = some (.string ⟨#[60, 60, 45]⟩) := by rw [World.cell?_of_block (Below.heap_setCell w3 ⟨b, 6, none⟩ _ q (by show q ≠ b; omega))]; exact y4
   have HF := hide hf.2.2
   clear hown3 hgrow hat hf
   refine hKK.out _ _ (by assumption) (fun hHeld => ?_)
   clear hKK KK
   try go_frame
   refine tk 17 (v := ?_) ?_ ?_
   rotate_left
   ·intro w hSw; (try dsimp only at hSw); go_simp; (try with_reducible rfl)
   go_frame
   refine tk 18 (v := ?_) ?_ ?_
   rotate_left
   ·intro w hSw; (try dsimp only at hSw); go_simp; (try with_reducible rfl)
   go_frame
   refine rd1 19 (fun KK hKK => ?_)
   go_simp
   refine hKK.out _ _ (by assumption) (fun hHeld => ?_)
   clear hKK KK
   try go_frame
   clear hHeld
   refine wpAnyH_done (by kernel_rfl) ?_ _
  rotate_left
  focus
   go_simp
   have d6a : (w2.alloc (.cells #[.pointer (some ⟨q, 0, none⟩), .string (BA (endL word)), .bool true] 77)).cell? ⟨b, 6, none⟩ = some (.slice ua ks.length uc) := ((uh H2).rdr.blk.alloc _).cell 6 (by simp)
   have y2 : (w2.alloc (.cells #[.pointer (some ⟨q, 0, none⟩), .string (BA (endL word)), .bool true] 77)).cell? ⟨q, 1, none⟩ = some (.string ⟨#[60, 60, 45]⟩) := cell_alloc y1 _
   refine hKK.out _ _ (by assumption) (fun hHeld => ?_)
   clear hKK KK
   try go_frame
   refine wpAnyH_ready (rs := [4, 15]) (by kernel_rfl) (by simp) ?_
   refine AllReadyH.cons rfl (fun KK hKK => ?_) (AllReadyH.cons rfl (fun KK hKK => ?_) AllReadyH.nil)
   focus
    go_simp
    refine hKK.out _ _ (by assumption) (fun hHeld => ?_)
    clear hKK KK
    try go_frame
    refine rd1 15 (fun KK hKK => ?_)
    go_simp
    have d6b : ((w2.alloc (.cells #[.pointer (some ⟨q, 0, none⟩), .string (BA (endL word)), .bool true] 77)).alloc (.cells #[.pointer (some ⟨w2.heap.size, 0, none⟩)] 78)).cell? ⟨b, 6, none⟩ = some (.slice ua ks.length uc) := (((uh H2).rdr.blk.alloc _).alloc _).cell 6 (by simp)
    have y3 : ((w2.alloc (.cells #[.pointer (some ⟨q, 0, none⟩), .string (BA (endL word)), .bool true] 77)).alloc (.cells #[.pointer (some ⟨w2.heap.size, 0, none⟩)] 78)).cell? ⟨q, 1, none⟩ = some (.string ⟨#[60, 60, 45]⟩) := cell_alloc y2 _
    refine hKK.out _ _ (by assumption) (fun hHeld => ?_)
    clear hKK KK
    try go_frame
    refine rd1 16 (fun KK hKK => ?_)
    refine step_append_lies _ (by rfl) _ _ _ (by rfl) (b + 1) 78 i0 (.pointer none) 1 8 und_wts hi hz0 hz1 hz2 rfl (by decide) (.slice ua ks.length uc) ks.length (ptrs ks) (by simp [Act.eval]) (World.ownsRow.alloc (World.ownsRow.alloc (uh H2).wts.row _) _) ⟨w2.heap.size + 1, 0, none⟩ 1 1 [.pointer (some ⟨w2.heap.size, 0, none⟩)] (by simp [Act.eval]) rfl ?_ ?_ (by decide) (by unfold maxLen; omega) (by omega) (by have := (uh H2).rdr.blk.lt; simp; omega) (w2.heap.size + 2) (by simp) ?_
    ·exact one_ptr2
    ·intro x hx; simp at hx; subst hx; rfl
    intro gg cg w3 hown3 hgrow hat hlt3
    have hf := await_fin (uh H2) hpi hown3 hgrow
    have y4 : w3.cell? ⟨q, 1, none⟩ = some (.string ⟨#[60, 60, 45]⟩) := (tok_kept (uh H2).wts.row ((uh H2).toks.blk _ q _ hpi (uh HTI)).2 hgrow).cell 1 (by rw [← uh HTX]; rfl)
    have d7 := hf.1
    have d8 := hf.2.1
    have y5 : (w3.setCell ⟨b, 6, none⟩ (.slice (some ⟨gg, 0, none⟩) (ks.length + 1) cg)).cell? ⟨q, 1, none⟩ = some (.string ⟨#[60, 60, 45]⟩) := by rw [World.cell?_of_block (Below.heap_setCell w3 ⟨b, 6, none⟩ _ q (by show q ≠ b; omega))]; exact y4
    have HF := hide hf.2.2
    clear hown3 hgrow hat hf
    refine hKK.out _ _ (by assumption) (fun hHeld => ?_)
    clear hKK KK
    try go_frame
    refine tk 17 (v := ?_) ?_ ?_
    rotate_left
    ·intro w hSw; (try dsimp only at hSw); go_simp; (try with_reducible rfl)
    go_frame
    refine tk 18 (v := ?_) ?_ ?_
    rotate_left
    ·intro w hSw; (try dsimp only at hSw); go_simp; (try with_reducible rfl)
    go_frame
    refine rd1 19 (fun KK hKK => ?_)
    go_simp
    refine hKK.out _ _ (by assumption) (fun hHeld => ?_)
    clear hKK KK
    try go_frame
    clear hHeld
    refine wpAnyH_done (by kernel_rfl) ?_ _
   rotate_left
   focus
    go_simp
    have d6b : ((w2.alloc (.cells #[.pointer (some ⟨q, 0, none⟩), .string (BA (endL word)), .bool true] 77)).alloc (.cells #[.pointer (some ⟨w2.heap.size, 0, none⟩)] 78)).cell? ⟨b, 6, none⟩ = some (.slice ua ks.length uc) := (((uh H2).rdr.blk.alloc _).alloc _).cell 6 (by simp)
    have y3 : ((w2.alloc (.cells #[.pointer (some ⟨q, 0, none⟩), .string (BA (endL word)), .bool true] 77)).alloc (.cells #[.pointer (some ⟨w2.heap.size, 0, none⟩)] 78)).cell? ⟨q, 1, none⟩ = some (.string ⟨#[60, 60, 45]⟩) := cell_alloc y2 _
    refine hKK.out _ _ (by assumption) (fun hHeld => ?_)
    clear hKK KK
    try go_frame
    refine rd1 4 (fun KK hKK => ?_)
    go_simp
    refine hKK.out _ _ (by assumption) (fun hHeld => ?_)
    clear hKK KK
    try go_frame
    refine rd1 16 (fun KK hKK => ?_)
    refine step_append_lies _ (by rfl) _ _ _ (by rfl) (b + 1) 78 i0 (.pointer none) 1 8 und_wts hi hz0 hz1 hz2 rfl (by decide) (.slice ua ks.length uc) ks.length (ptrs ks) (by simp [Act.eval]) (World.ownsRow.alloc (World.ownsRow.alloc (uh H2).wts.row _) _) ⟨w2.heap.size + 1, 0, none⟩ 1 1 [.pointer (some ⟨w2.heap.size, 0, none⟩)] (by simp [Act.eval]) rfl ?_ ?_ (by decide) (by unfold maxLen; omega) (by omega) (by have := (uh H2).rdr.blk.lt; simp; omega) (w2.heap.size + 2) (by simp) ?_
    ·exact one_ptr2
    ·intro x hx; simp at hx; subst hx; rfl
    intro gg cg w3 hown3 hgrow hat hlt3
    have hf := await_fin (uh H2) hpi hown3 hgrow
    have y4 : w3.cell? ⟨q, 1, none⟩ = some (.string ⟨#[60, 60, 45]⟩) := (tok_kept (uh H2).wts.row ((uh H2).toks.blk _ q _ hpi (uh HTI)).2 hgrow).cell 1 (by rw [← uh HTX]; rfl)
    have d7 := hf.1
    have d8 := hf.2.1
    have y5 : (w3.setCell ⟨b, 6, none⟩ (.slice (some ⟨gg, 0, none⟩) (ks.length + 1) cg)).cell? ⟨q, 1, none⟩ = some (.string ⟨#[60, 60, 45]⟩) := by rw [World.cell?_of_block (Below.heap_setCell w3 ⟨b, 6, none⟩ _ q (by show q ≠ b; omega))]; exact y4
    have HF := hide hf.2.2
    clear hown3 hgrow hat hf
    refine hKK.out _ _ (by assumption) (fun hHeld => ?_)
    clear hKK KK
    try go_frame
    refine tk 17 (v := ?_) ?_ ?_
    rotate_left
    ·intro w hSw; (try dsimp only at hSw); go_simp; (try with_reducible rfl)
    go_frame
    refine tk 18 (v := ?_) ?_ ?_
    rotate_left
    ·intro w hSw; (try dsimp only at hSw); go_simp; (try with_reducible rfl)
    go_frame
    refine rd1 19 (fun KK hKK => ?_)
    go_simp
    refine hKK.out _ _ (by assumption) (fun hHeld => ?_)
    clear hKK KK
    try go_frame
    clear hHeld
    refine wpAnyH_done (by kernel_rfl) ?_ _
   rotate_left
  rotate_left 2
 rotate_left 3
 all_goals
  clear d7 d8
  go_wp2
  refine bodyPost_end (res0 rfl _ _) rfl ?_
  exact ⟨rfl, _, _, by rw [uh HAW]; exact (uh HF).1, (uh HG0).trans ((uh HG1).trans ((uh HG2).trans (uh HF).2))⟩
end Go.Proofs.YtojjfdobilkknaaGreatDoor

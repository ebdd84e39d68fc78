/-
  Numbers as texts, texts joined: the program's and the document's.
-/
import Derived.Test.YtbcbnoeplapblaaDoorVRow
import Derived.Test.YtbcbnoeplapblaaDoorJoin
import Derived.Lib.ItoaNum
import Derived.Lib.UnsafeStr
import Derived.Lib.BufferRead
import Derived.Laws.IdiomStrings
import Derived.Lib.SmallJoins
namespace Go.Proofs.YtbcbnoeplapblaaDoor
open Go.RowKit

theorem und_bytes : Tryd.prog.underlying 87 = some (.slice 5) := by kernel_rfl
theorem und_byte : Tryd.prog.underlying 5 = some (.int .u8) := by kernel_rfl
theorem und_str : Tryd.prog.underlying 9 = some .string := by kernel_rfl
theorem ret_str {a b : ByteArray} (h : a = b) : Ending.returned (.string a) = .returned (.string b) := by rw [h]


theorem info5 : (Tryd.prog.info? 5).map (fun i => (i.zero, i.size, i.bytes)) = some (some (.int .u8 0), 1, 1) := by kernel_rfl

/-- The slice of bytes v is the call's own and holds l. -/
def OwnB (w : World) (base : Nat) (v : Value) (l : List UInt8) : Prop := w.ownsRow base 5 1 v l.length (Lib.byteCells l)

theorem ownB_nil (w : World) (base : Nat) : OwnB w base (.slice none 0 0) [] := World.ownsRow_nil _ _ _ _
theorem OwnB.alloc {w : World} {base : Nat} {v : Value} {l : List UInt8} (h : OwnB w base v l) (o : Obj) : OwnB (w.alloc o) base v l := World.ownsRow.alloc h o
theorem byteCells_append (a b : List UInt8) : Lib.byteCells (a ++ b) = Lib.byteCells a ++ Lib.byteCells b := by simp [Lib.byteCells]
theorem OwnB.shape {w : World} {base : Nat} {v : Value} {l : List UInt8} (h : OwnB w base v l) (hl : l ≠ []) :
    ∃ g cap, v = .slice (some ⟨g, 0, none⟩) l.length cap ∧ base ≤ g ∧ g < w.heap.size ∧ ∀ j (hj : j < l.length), w.cell? ⟨g, j, none⟩ = some (.int .u8 (l[j].toNat : Int)) := by
  obtain ⟨_, ⟨_, h0⟩ | ⟨g, cap, cur, rfl, hb, hg, _, _, _, htk⟩⟩ := h
  · exact absurd (List.eq_nil_of_length_eq_zero h0) hl
  · refine ⟨g, cap, rfl, hb, ?_, fun j hj => ?_⟩
    · rcases Nat.lt_or_ge g w.heap.size with h' | h'
      · exact h'
      · rw [Array.getElem?_eq_none h'] at hg; cases hg
    · have := Lib.bytes_of_row hg (by simpa using htk) j hj
      rwa [add_at] at this
theorem OwnB.text {w : World} {base : Nat} {v : Value} {l : List UInt8} (h : OwnB w base v l) : (convert 87 9 v).run Tryd.prog w = .ok (.string ⟨l.toArray⟩) w := by
  by_cases hl : l = []
  · subst hl
    obtain ⟨_, ⟨rfl, _⟩ | ⟨g, cap, cur, rfl, _⟩⟩ := h
    · exact Lib.run_convert_nil_bytes w 87 9 5 0 und_bytes und_byte und_str
    · exact run_convert_bytes_back w 87 9 5 ⟨g, 0, none⟩ cap [] und_bytes und_byte und_str (fun j hj => absurd hj (by simp))
  · obtain ⟨g, cap, rfl, _, _, hc⟩ := h.shape hl
    exact run_convert_bytes_back w 87 9 5 ⟨g, 0, none⟩ cap l und_bytes und_byte und_str (fun j hj => by rw [add_at]; exact hc j hj)

/-- Behind an append of the bytes c: the row holds them too. -/
theorem own_push {w1 : World} {base n : Nat} {v' : Value} {l c : List UInt8} {zs : List Value} (hn : n = l.length + c.length) (hz : zs = Lib.byteCells c) (h : w1.ownsRow base 5 1 v' n (Lib.byteCells l ++ zs)) : OwnB w1 base v' (l ++ c) := by
  unfold OwnB
  rw [byteCells_append, ← hz, List.length_append, ← hn]
  exact h
/-- Behind an append: below the row's base nothing has turned. -/
theorem own_below {w wr w1 : World} {base : Nat} {v : Value} {l : List UInt8} {o : Obj} (hown : OwnB wr base v l) (hbel : Below base w wr) (hb : base ≤ wr.heap.size) (hg : (wr.alloc o).grownBy w1 v.ownBlock) : Below base w w1 :=
  (hbel.alloc hb o).grown hg (by simp; omega) (fun k hk => (World.ownsRow.lt hown k hk).1)
theorem one_cell {w : World} {x : Value} : ∀ j u, [x][j]? = some u → (w.alloc (.cells #[x] 5)).cell? ((⟨w.heap.size, 0, none⟩ : Addr).add j) = some u := by
  intro j u hj
  match j, hj with
  | 0, hj => simp at hj; subst hj; rw [add_at]; go_simp
theorem one_is {x : Int} : ∀ u ∈ [Value.int .u8 x], u.oneCell' = true := by
  intro u hu; simp at hu; subst hu; rfl



/-- The digits of a, the last one first; none of 0. 'f': fuel, at least a. -/
def rdF : Nat → Nat → List UInt8
  | 0, _ => []
  | f + 1, a => if a = 0 then [] else UInt8.ofNat (48 + a % 10) :: rdF f (a / 10)
def rd (a : Nat) : List UInt8 := rdF a a

theorem rdF_more : ∀ (a f g : Nat), a ≤ f → a ≤ g → rdF f a = rdF g a := by
  intro a
  induction a using Nat.strongRecOn with
  | ind a ih =>
    intro f g hf hg
    by_cases h : a = 0
    · subst h
      cases f <;> cases g <;> simp [rdF]
    · obtain ⟨f', rfl⟩ : ∃ f', f = f' + 1 := ⟨f - 1, by omega⟩
      obtain ⟨g', rfl⟩ : ∃ g', g = g' + 1 := ⟨g - 1, by omega⟩
      rw [rdF, rdF, if_neg h, if_neg h, ih (a / 10) (by omega) f' g' (by omega) (by omega)]
theorem rd_zero : rd 0 = [] := rfl
theorem rd_step {a : Nat} (h : a ≠ 0) : rd a = UInt8.ofNat (48 + a % 10) :: rd (a / 10) := by
  unfold rd
  obtain ⟨b, rfl⟩ : ∃ b, a = b + 1 := ⟨a - 1, by omega⟩
  rw [rdF, if_neg h, rdF_more _ b ((b + 1) / 10) (by omega) (Nat.le_refl _)]
theorem rd_len : ∀ (k a : Nat), a < 10 ^ k → (rd a).length ≤ k
  | 0, a, h => by
    have : a = 0 := by simpa using h
    subst this; rw [rd_zero]; simp
  | k + 1, a, h => by
    by_cases h0 : a = 0
    · subst h0; rw [rd_zero]; simp
    · rw [rd_step h0]
      have := rd_len k (a / 10) (by rw [Nat.pow_succ] at h; omega)
      simp; omega
theorem rd_decDigits : ∀ (a : Nat), a ≠ 0 → Lib.decDigits a = (rd a).reverse := by
  intro a
  induction a using Nat.strongRecOn with
  | ind a ih =>
    intro h
    rw [Lib.decDigits, rd_step h]
    by_cases h10 : a < 10
    · have e1 : a % 10 = a := by omega
      have e2 : a / 10 = 0 := by omega
      rw [dif_pos h10, e1, e2, rd_zero]
      rfl
    · rw [dif_neg h10, ih (a / 10) (by omega) (by omega)]
      simp
theorem rd_itoa_pos {n : Int} (h : 0 < n) : Lib.itoa n = (rd n.natAbs).reverse := by
  unfold Lib.itoa
  have e : n.toNat = n.natAbs := by omega
  rw [if_neg (by omega), e, rd_decDigits _ (by omega)]
theorem rd_itoa_neg {n : Int} (h : n < 0) : Lib.itoa n = (rd n.natAbs ++ [45]).reverse := by
  unfold Lib.itoa
  rw [if_pos h, rd_decDigits _ (by omega)]
  simp
theorem itoa_zero : Lib.itoa 0 = [48] := by
  unfold Lib.itoa
  rw [if_neg (by decide), Lib.decDigits]
  rfl

theorem tmod_neg {a : Int} (h : a ≤ 0) : -9 ≤ a.tmod 10 ∧ a.tmod 10 ≤ 0 ∧ (a.tmod 10).natAbs = a.natAbs % 10 := by
  obtain ⟨b, rfl⟩ : ∃ b : Nat, a = -(b : Int) := ⟨a.natAbs, by omega⟩
  rw [Int.neg_tmod, Int.tmod_eq_emod_of_nonneg (by omega)]
  omega
theorem tdiv_neg {a : Int} (h : a ≤ 0) : a ≤ a.tdiv 10 ∧ a.tdiv 10 ≤ 0 ∧ (a.tdiv 10).natAbs = a.natAbs / 10 := by
  obtain ⟨b, rfl⟩ : ∃ b : Nat, a = -(b : Int) := ⟨a.natAbs, by omega⟩
  rw [Int.neg_tdiv, Int.tdiv_eq_ediv_of_nonneg (by omega)]
  omega



set_option maxRecDepth 20000 in
set_option maxHeartbeats 1000000 in
theorem rtext_pos (n : Int) (w : World) (h0 : 0 < n) (h1 : n ≤ 9223372036854775807) :
    Calls Tryd.prog 45 #[.int .i64 n] w fun e w' => e = .returned (.string ⟨(Lib.itoa n).toArray⟩) ∧ Below w.heap.size w w' := by
  obtain ⟨i0, hi, hz0, hz1, hz2⟩ := info_of info5
  have hn0 : (n == 0) = false := by rw [beq_eq_false_iff_ne]; omega
  have HR := hide (rd_len 19 n.natAbs (by omega))
  go_enter Tryd.func45, Tryd.ntmps45
  go_wp2
  go_loopw [3, 4] (fun v m wr => ∃ (a : Int) (l : List UInt8), m = .int .i64 a ∧ 0 ≤ a ∧ a ≤ 9223372036854775807 ∧ l ++ rd a.natAbs = rd n.natAbs ∧ OwnB wr w.heap.size v l ∧ Below w.heap.size w wr) (fun _ m _ => (intOf m).natAbs)
  case atStart => exact ⟨n, [], rfl, by omega, h1, rfl, ownB_nil _ _, Below.refl _ _⟩
  case round =>
    obtain ⟨a, l, rfl, ha0, ha1, hrd, hown, hbel⟩ := hrel
    have HRD := hide hrd
    have HL : l.length ≤ 19 := by
      have e1 := congrArg List.length hrd
      have e2 := unhide HR
      simp at e1; omega
    clear hrd
    by_cases hz : a = 0
    · subst hz
      have hl : l = rd n.natAbs := by have := unhide HRD; simpa [rd_zero] using this
      have hne : l ≠ [] := by rw [hl, rd_step (by omega)]; simp
      obtain ⟨g, cap, hu, hg0, hg1, hc⟩ := hown.shape hne
      have HL2 := hide hl
      have HC := hide hc
      have HB := hide hbel
      subst hu
      have hpos : 0 < l.length := by cases l with | nil => exact absurd rfl hne | cons _ _ => simp
      clear hl hne hown hc hbel HRD
      obtain ⟨wA, hwA⟩ : ∃ x, x = wr := ⟨_, rfl⟩
      subst hwA
      go_wp2
      go_loopw [6, 7] (fun v m w2 => ∃ (k : Nat), k ≤ l.length ∧ m = .int .i64 ((k : Int) - 1) ∧ OwnB w2 wA.heap.size v (l.drop k).reverse ∧ Below wA.heap.size wA w2) (fun _ m _ => ((intOf m) + 1).toNat)
      case atStart => exact ⟨l.length, Nat.le_refl _, rfl, by rw [List.drop_length]; exact ownB_nil _ _, Below.refl _ _⟩
      case round =>
        obtain ⟨k, hk, rfl, hown2, hbel2⟩ := hrel
        match k, hk, hown2 with
        | 0, hk, hown2 =>
          have hcv := hown2.text
          go_wp2
          go_ret
          exact ⟨ret_str (by rw [rd_itoa_pos h0, ← unhide HL2]), (unhide HB).trans (hbel2.mono (unhide HB).size)⟩
        | k + 1, hk, hown2 =>
          have e : (((k + 1 : Nat) : Int) - 1) = (k : Int) := by omega
          rw [e]
          clear e
          have hcell := (hbel2.cell (p := ⟨g, k, none⟩) hg1).trans ((unhide HC) k (by omega))
          have hlen2 : (l.drop (k + 1)).reverse.length ≤ 19 := by simp; omega
          go_wp2_with (first
            | (at_builtin; refine wpList_append_own _ rfl (.tmp 39) (.tmp 44) 87 rfl wA.heap.size 5 i0 (.int .u8 0) 1 1 und_bytes hi hz0 hz1 hz2 rfl (by decide) _ _ _ rfl (hown2.alloc _) ⟨wr.heap.size, 0, none⟩ 1 1 [.int .u8 (l[k].toNat : Int)] rfl rfl one_cell one_is ?d3 ?d4 ?d5 ?_)
            | go_in)
          case d3 => unfold maxLen; omega
          case d4 => omega
          case d5 => have := hbel2.size; simp; omega
          intro v' w1 hown' hgrow _
          have hb' := own_below hown2 hbel2 hbel2.size hgrow
          have ho' : OwnB w1 wA.heap.size v' ((l.drop (k + 1)).reverse ++ [l[k]]) := own_push (zs := [.int .u8 (l[k].toNat : Int)]) (by simp) (by simp [Lib.byteCells]) hown'
          have hr' : (l.drop (k + 1)).reverse ++ [l[k]] = (l.drop k).reverse := by
            rw [List.drop_eq_getElem_cons (l := l) (i := k) (by omega), List.reverse_cons]
          rw [hr'] at ho'
          clear hown' hgrow hown2 hbel2 hr' hcell hlen2
          go_wp2
          go_roundw
          case rel => exact ⟨k, by omega, by go_num, ho', hb'⟩
          case measure => simp [intOf]
    · have hz' : (a == 0) = false := by rw [beq_eq_false_iff_ne]; omega
      have hap : 0 < a := by omega
      go_wp2_with (first
        | (at_builtin; refine wpList_append_own _ rfl (.tmp 21) (.tmp 25) 87 rfl w.heap.size 5 i0 (.int .u8 0) 1 1 und_bytes hi hz0 hz1 hz2 rfl (by decide) _ _ _ rfl (hown.alloc _) ⟨wr.heap.size, 0, none⟩ 1 1 [.int .u8 (48 + a % 10)] rfl rfl one_cell one_is ?c3 ?c4 ?c5 ?_)
        | go_in)
      case c3 => unfold maxLen; omega
      case c4 => omega
      case c5 => have := hbel.size; simp; omega
      intro v' w1 hown' hgrow _
      have hb' := own_below hown hbel hbel.size hgrow
      have ho' : OwnB w1 w.heap.size v' (l ++ [UInt8.ofNat (48 + a.natAbs % 10)]) := own_push rfl (by simp [Lib.byteCells]; omega) hown'
      have hr' : (l ++ [UInt8.ofNat (48 + a.natAbs % 10)]) ++ rd (a / 10).natAbs = rd n.natAbs := by
        have e := rd_step (a := a.natAbs) (by omega)
        have e2 : (a / 10).natAbs = a.natAbs / 10 := by omega
        rw [← unhide HRD, e, e2]; simp
      have HR' := hide hr'
      clear hr' hown' hgrow hown hbel
      go_wp2
      go_roundw
      case rel => exact ⟨a / 10, _, by go_num, by omega, by omega, unhide HR', ho', hb'⟩
      case measure => simp [intOf]; omega

set_option maxRecDepth 20000 in
set_option maxHeartbeats 1000000 in
theorem rtext_neg (n : Int) (w : World) (h0 : n < 0) (h1 : -9223372036854775808 ≤ n) :
    Calls Tryd.prog 45 #[.int .i64 n] w fun e w' => e = .returned (.string ⟨(Lib.itoa n).toArray⟩) ∧ Below w.heap.size w w' := by
  obtain ⟨i0, hi, hz0, hz1, hz2⟩ := info_of info5
  have hn0 : (n == 0) = false := by rw [beq_eq_false_iff_ne]; omega
  have HR := hide (rd_len 19 n.natAbs (by omega))
  go_enter Tryd.func45, Tryd.ntmps45
  go_wp2
  go_loopw [3, 4] (fun v m wr => ∃ (a : Int) (l : List UInt8), m = .int .i64 a ∧ -9223372036854775808 ≤ a ∧ a ≤ 0 ∧ l ++ rd a.natAbs = rd n.natAbs ∧ OwnB wr w.heap.size v l ∧ Below w.heap.size w wr) (fun _ m _ => (intOf m).natAbs)
  case atStart => exact ⟨n, [], rfl, by omega, by omega, rfl, ownB_nil _ _, Below.refl _ _⟩
  case round =>
    obtain ⟨a, l, rfl, ha0, ha1, hrd, hown, hbel⟩ := hrel
    have HRD := hide hrd
    have HL : l.length ≤ 19 := by
      have e1 := congrArg List.length hrd
      have e2 := unhide HR
      simp at e1; omega
    clear hrd
    by_cases hz : a = 0
    · subst hz
      have hl : l = rd n.natAbs := by have := unhide HRD; simpa [rd_zero] using this
      have HL2 := hide hl
      clear hl HRD
      go_wp2_with (first
        | (at_builtin; refine wpList_append_own _ rfl (.tmp 29) (.tmp 30) 87 rfl w.heap.size 5 i0 (.int .u8 0) 1 1 und_bytes hi hz0 hz1 hz2 rfl (by decide) _ _ _ rfl (hown.alloc _) ⟨wr.heap.size, 0, none⟩ 1 1 [.int .u8 45] rfl rfl one_cell one_is ?e3 ?e4 ?e5 ?_)
        | go_in)
      case e3 => unfold maxLen; omega
      case e4 => omega
      case e5 => have := hbel.size; simp; omega
      intro v' wA hown' hgrow _
      have hb' := own_below hown hbel hbel.size hgrow
      have ho' : OwnB wA w.heap.size v' (l ++ [45]) := own_push (zs := [.int .u8 45]) rfl (by simp [Lib.byteCells]) hown'
      obtain ⟨L, hL⟩ : ∃ L, L = l ++ [45] := ⟨_, rfl⟩
      rw [← hL] at ho'
      have hne : L ≠ [] := by rw [hL]; simp
      have hLl : L.length ≤ 20 := by rw [hL]; simp; omega
      have HL3 := hide hL
      obtain ⟨g, cap, hu, hg0, hg1, hc⟩ := ho'.shape hne
      have HC := hide hc
      have HB := hide hb'
      subst hu
      have hpos : 0 < L.length := by cases L with | nil => exact absurd rfl hne | cons _ _ => simp
      clear hne hown hc hbel hown' hgrow hb' ho' hL
      go_wp2
      go_loopw [6, 7] (fun v m w2 => ∃ (k : Nat), k ≤ L.length ∧ m = .int .i64 ((k : Int) - 1) ∧ OwnB w2 wA.heap.size v (L.drop k).reverse ∧ Below wA.heap.size wA w2) (fun _ m _ => ((intOf m) + 1).toNat)
      case atStart => exact ⟨L.length, Nat.le_refl _, rfl, by rw [List.drop_length]; exact ownB_nil _ _, Below.refl _ _⟩
      case round =>
        obtain ⟨k, hk, rfl, hown2, hbel2⟩ := hrel
        match k, hk, hown2 with
        | 0, hk, hown2 =>
          have hcv := hown2.text
          go_wp2
          go_ret
          exact ⟨ret_str (by rw [rd_itoa_neg h0, ← unhide HL2, ← unhide HL3]), (unhide HB).trans (hbel2.mono (unhide HB).size)⟩
        | k + 1, hk, hown2 =>
          have e : (((k + 1 : Nat) : Int) - 1) = (k : Int) := by omega
          rw [e]
          clear e
          have hcell := (hbel2.cell (p := ⟨g, k, none⟩) hg1).trans ((unhide HC) k (by omega))
          have hlen2 : (L.drop (k + 1)).reverse.length ≤ 20 := by simp; omega
          go_wp2_with (first
            | (at_builtin; refine wpList_append_own _ rfl (.tmp 39) (.tmp 44) 87 rfl wA.heap.size 5 i0 (.int .u8 0) 1 1 und_bytes hi hz0 hz1 hz2 rfl (by decide) _ _ _ rfl (hown2.alloc _) ⟨wr.heap.size, 0, none⟩ 1 1 [.int .u8 (L[k].toNat : Int)] rfl rfl one_cell one_is ?d3 ?d4 ?d5 ?_)
            | go_in)
          case d3 => unfold maxLen; omega
          case d4 => omega
          case d5 => have := hbel2.size; simp; omega
          intro v' w1 hown' hgrow _
          have hb' := own_below hown2 hbel2 hbel2.size hgrow
          have ho' : OwnB w1 wA.heap.size v' ((L.drop (k + 1)).reverse ++ [L[k]]) := own_push (zs := [.int .u8 (L[k].toNat : Int)]) (by simp) (by simp [Lib.byteCells]) hown'
          have hr' : (L.drop (k + 1)).reverse ++ [L[k]] = (L.drop k).reverse := by
            rw [List.drop_eq_getElem_cons (l := L) (i := k) (by omega), List.reverse_cons]
          rw [hr'] at ho'
          clear hown' hgrow hown2 hbel2 hr' hcell hlen2
          go_wp2
          go_roundw
          case rel => exact ⟨k, by omega, by go_num, ho', hb'⟩
          case measure => simp [intOf]
    · have hz' : (a == 0) = false := by rw [beq_eq_false_iff_ne]; omega
      have hap : a < 0 := by omega
      obtain ⟨m1, m2, m3⟩ := tmod_neg ha1
      obtain ⟨q1, q2, q3⟩ := tdiv_neg ha1
      have M3 := hide m3
      have Q3 := hide q3
      clear m3 q3
      by_cases hr : a.tmod 10 < 0
      · go_wp2_with (first
          | (at_builtin; refine wpList_append_own _ rfl (.tmp 21) (.tmp 25) 87 rfl w.heap.size 5 i0 (.int .u8 0) 1 1 und_bytes hi hz0 hz1 hz2 rfl (by decide) _ _ _ rfl (hown.alloc _) ⟨wr.heap.size, 0, none⟩ 1 1 [.int .u8 (48 + -a.tmod 10)] rfl rfl one_cell one_is ?c3a ?c4a ?c5a ?_)
          | go_in)
        case c3a => unfold maxLen; omega
        case c4a => omega
        case c5a => have := hbel.size; simp; omega
        intro v' w1 hown' hgrow _
        have hb' := own_below hown hbel hbel.size hgrow
        have ho' : OwnB w1 w.heap.size v' (l ++ [UInt8.ofNat (48 + a.natAbs % 10)]) := own_push (zs := [.int .u8 (48 + -a.tmod 10)]) rfl (by have := unhide M3; simp [Lib.byteCells]; omega) hown'
        have hr' : (l ++ [UInt8.ofNat (48 + a.natAbs % 10)]) ++ rd (a.tdiv 10).natAbs = rd n.natAbs := by
          have e := rd_step (a := a.natAbs) (by omega)
          rw [← unhide HRD, e, unhide Q3]; simp
        have HR' := hide hr'
        have hlt : (a.tdiv 10).natAbs < a.natAbs := by have := unhide Q3; omega
        clear hr' hown' hgrow hown hbel
        go_wp2
        go_roundw
        case rel => exact ⟨a.tdiv 10, _, by go_num, by omega, by omega, unhide HR', ho', hb'⟩
        case measure => simpa [intOf] using hlt
      · go_wp2_with (first
          | (at_builtin; refine wpList_append_own _ rfl (.tmp 21) (.tmp 25) 87 rfl w.heap.size 5 i0 (.int .u8 0) 1 1 und_bytes hi hz0 hz1 hz2 rfl (by decide) _ _ _ rfl (hown.alloc _) ⟨wr.heap.size, 0, none⟩ 1 1 [.int .u8 (48 + a.tmod 10)] rfl rfl one_cell one_is ?c3b ?c4b ?c5b ?_)
          | go_in)
        case c3b => unfold maxLen; omega
        case c4b => omega
        case c5b => have := hbel.size; simp; omega
        intro v' w1 hown' hgrow _
        have hb' := own_below hown hbel hbel.size hgrow
        have ho' : OwnB w1 w.heap.size v' (l ++ [UInt8.ofNat (48 + a.natAbs % 10)]) := own_push (zs := [.int .u8 (48 + a.tmod 10)]) rfl (by have := unhide M3; simp [Lib.byteCells]; omega) hown'
        have hr' : (l ++ [UInt8.ofNat (48 + a.natAbs % 10)]) ++ rd (a.tdiv 10).natAbs = rd n.natAbs := by
          have e := rd_step (a := a.natAbs) (by omega)
          rw [← unhide HRD, e, unhide Q3]; simp
        have HR' := hide hr'
        have hlt : (a.tdiv 10).natAbs < a.natAbs := by have := unhide Q3; omega
        clear hr' hown' hgrow hown hbel
        go_wp2
        go_roundw
        case rel => exact ⟨a.tdiv 10, _, by go_num, by omega, by omega, unhide HR', ho', hb'⟩
        case measure => simpa [intOf] using hlt

set_option maxRecDepth 20000 in
set_option maxHeartbeats 400000 in
theorem rtext_zero (w : World) :
    Calls Tryd.prog 45 #[.int .i64 0] w fun e w' => e = .returned (.string ⟨(Lib.itoa 0).toArray⟩) ∧ w' = w := by
  rw [itoa_zero]
  go_enter Tryd.func45, Tryd.ntmps45
  go_wp2
  go_ret
  exact ⟨rfl, rfl⟩

theorem rtext_any (n : Int) (w : World) (h0 : -9223372036854775808 ≤ n) (h1 : n ≤ 9223372036854775807) :
    Calls Tryd.prog 45 #[.int .i64 n] w fun e w' => e = .returned (.string ⟨(Lib.itoa n).toArray⟩) ∧ Below w.heap.size w w' := by
  rcases Int.lt_trichotomy n 0 with h | h | h
  · exact rtext_neg n w h h0
  · subst h
    exact (rtext_zero w).mono fun e w' ⟨he, hw⟩ => ⟨he, by rw [hw]; exact Below.refl _ _⟩
  · exact rtext_pos n w h h1



theorem joinTail_snoc (sep : List UInt8) (r : List (List UInt8)) (y : List UInt8) : Lib.joinTail sep (r ++ [y]) = Lib.joinTail sep r ++ (sep ++ y) := by
  simp [Lib.joinTail]
theorem join_snoc (sep : List UInt8) : ∀ (l : List (List UInt8)) (y : List UInt8), l ≠ [] → Lib.join (l ++ [y]) sep = Lib.join l sep ++ sep ++ y
  | [], _, h => absurd rfl h
  | x :: r, y, _ => by rw [List.cons_append, Lib.join_cons, Lib.join_cons, joinTail_snoc]; simp

/-- The first k texts, one behind the other. -/
def outL (xs : List ByteArray) (sep : ByteArray) (k : Nat) : List UInt8 := Lib.join ((xs.take k).map (·.data.toList)) sep.data.toList

theorem outL_zero (xs : List ByteArray) (sep : ByteArray) : outL xs sep 0 = [] := rfl
theorem outL_one (xs : List ByteArray) (sep : ByteArray) (h : 0 < xs.length) : outL xs sep 1 = xs[0].data.toList := by
  match xs, h with
  | x :: r, _ => simp [outL, Lib.join_one]
theorem outL_succ (xs : List ByteArray) (sep : ByteArray) (k : Nat) (h0 : 0 < k) (h : k < xs.length) : outL xs sep (k + 1) = outL xs sep k ++ sep.data.toList ++ xs[k].data.toList := by
  unfold outL
  rw [List.take_succ_eq_append_getElem h, List.map_append]
  refine join_snoc _ _ _ ?_
  intro e
  have e1 : ((xs.take k).map (·.data.toList)).length = 0 := by rw [e]; rfl
  rw [List.length_map, List.length_take] at e1
  omega
theorem app_data (a b : ByteArray) : (a ++ b).data.toList = a.data.toList ++ b.data.toList := by simp
theorem app_size (a b : ByteArray) : (a ++ b).size = a.size + b.size := by simp

set_option maxRecDepth 20000 in
set_option maxHeartbeats 1000000 in
theorem rjoin_some (b o c : Nat) (xs : List ByteArray) (sep : ByteArray) (w : World) (hc : ∀ j (hj : j < xs.length), w.cell? ⟨b, o + j, none⟩ = some (.string xs[j])) (hn : xs.length ≤ 50) (hsep : sep.size ≤ 200) (hx : ∀ j (hj : j < xs.length), xs[j].size ≤ 200) :
    Calls Tryd.prog 46 #[.string sep, .slice (some ⟨b, o, none⟩) xs.length c] w fun e w' => e = .returned (.string ⟨(Lib.join (xs.map (·.data.toList)) sep.data.toList).toArray⟩) ∧ w' = w := by
  have HC := hide hc
  have HX := hide hx
  clear hc hx
  go_enter Tryd.func46, Tryd.ntmps46
  go_wp2
  go_loop [5, 6] (fun t i => ∃ (k : Nat) (S : ByteArray), k ≤ xs.length ∧ i = .int .i64 k ∧ t = .string S ∧ S.size ≤ 400 * k ∧ S.data.toList = outL xs sep k) (fun _ i => xs.length - (intOf i).toNat)
  case atStart => exact ⟨0, ⟨#[]⟩, Nat.zero_le _, rfl, rfl, Nat.le_refl _, rfl⟩
  case round =>
    obtain ⟨k, S, hk, rfl, rfl, hS, hO⟩ := hrel
    have HO := hide hO
    clear hO
    by_cases hlt : k < xs.length
    · have hcx := (unhide HC) k hlt
      have hxx := (unhide HX) k hlt
      by_cases h0 : k = 0
      · subst h0
        rw [Nat.add_zero] at hcx
        have hsz := app_size S xs[0]
        have HSZ := hide hsz
        clear hsz
        go_wp2
        go_round
        case rel => exact ⟨1, S ++ xs[0], by omega, by go_num, rfl, by rw [unhide HSZ]; omega, by rw [app_data, unhide HO, outL_zero, outL_one xs sep hlt]; rfl⟩
        case measure => simp [intOf]; omega
      · have hp : 0 < (k : Int) := by omega
        have hsz := app_size S sep
        have hsz2 := app_size (S ++ sep) xs[k]
        have hle : (S ++ sep).size ≤ 20400 := by omega
        have HSZ := hide hsz
        have HSZ2 := hide hsz2
        clear hsz hsz2
        go_wp2
        go_round
        case rel => exact ⟨k + 1, S ++ sep ++ xs[k], by omega, by go_num, rfl, by rw [unhide HSZ2, unhide HSZ]; omega, by rw [app_data, app_data, unhide HO, outL_succ xs sep k (by omega) hlt]⟩
        case measure => simp [intOf]; omega
    · go_wp2
      go_ret
      refine ⟨ret_str ?_, rfl⟩
      have e : outL xs sep k = Lib.join (xs.map (·.data.toList)) sep.data.toList := by
        unfold outL; rw [List.take_of_length_le (by omega)]
      rw [← e, ← unhide HO]

set_option maxRecDepth 20000 in
set_option maxHeartbeats 400000 in
theorem rjoin_none (a : Option Addr) (c : Nat) (sep : ByteArray) (w : World) :
    Calls Tryd.prog 46 #[.string sep, .slice a 0 c] w fun e w' => e = .returned (.string ⟨#[]⟩) ∧ w' = w := by
  go_enter Tryd.func46, Tryd.ntmps46
  go_wp2
  refine wp_loop_rounds 1 ?_
  rw [rounds_succ]
  go_wp2
  go_ret
  exact ⟨rfl, rfl⟩


theorem below_grow (w : World) (n : Nat) (os : Array Obj) : Below w.heap.size w (Sort.grow (w.drewN n) os) :=
  ⟨rfl, rfl, rfl, by simp [Sort.grow], fun i hi => by
    show ((w.drewN n).heap ++ os)[i]? = _
    rw [Array.getElem?_append_left (by show i < w.heap.size; omega)]
    rfl⟩
set_option maxRecDepth 20000 in
set_option maxHeartbeats 400000 in
theorem text_any (n : Int) (w : World) (ht : Lib.TabIs Tryd.prog w "internal/strconv.uint64pow10" .u64 Lib.pow10Tab) (h0 : -9223372036854775808 ≤ n) (h1 : n ≤ 9223372036854775807) :
    Calls Tryd.prog 38 #[.int .i64 n] w fun e w' => e = .returned (.string ⟨(Lib.itoa n).toArray⟩) ∧ Below w.heap.size w w' := by
  go_enter Tryd.func38, Tryd.ntmps38
  go_wp2_with fail
  refine (Tryd.strconv_Itoa _ h0 h1 _ ht).mono ?_
  rintro e w1 ⟨rfl, k, os, rfl⟩
  go_wp2_with fail
  go_ret
  exact ⟨rfl, below_grow _ _ _⟩
set_option maxRecDepth 20000 in
set_option maxHeartbeats 400000 in
theorem join_some (bk o c : Nat) (xs : List ByteArray) (sep : ByteArray) (w : World) (hcells : ∀ (j : Nat) x, xs[j]? = some x → w.cell? ⟨bk, o + j, none⟩ = some (.string x)) (hbk : bk < w.heap.size) (hN : xs.length ≤ 140737488355328) (hcap : xs.length ≤ c) (hlen : (Lib.join (xs.map (·.data.toList)) sep.data.toList).length ≤ 140737488355328) :
    Calls Tryd.prog 59 #[.string sep, .slice (some ⟨bk, o, none⟩) xs.length c] w fun e w' => e = .returned (.string ⟨(Lib.join (xs.map (·.data.toList)) sep.data.toList).toArray⟩) ∧ Below w.heap.size w w' := by
  have HC := hide hcells
  have HL := hide hlen
  clear hcells hlen
  go_enter Tryd.func59, Tryd.ntmps59
  go_wp2_with fail
  refine (Tryd.strings_Join bk o c xs sep _ (unhide HC) hbk hN hcap (unhide HL)).mono ?_
  rintro e w1 ⟨rfl, b1⟩
  go_wp2_with fail
  go_ret
  exact ⟨rfl, b1⟩
set_option maxRecDepth 20000 in
set_option maxHeartbeats 400000 in
theorem join_none (a : Option Addr) (c : Nat) (sep : ByteArray) (w : World) :
    Calls Tryd.prog 59 #[.string sep, .slice a 0 c] w fun e w' => e = .returned (.string ⟨#[]⟩) ∧ w' = w := by
  go_enter Tryd.func59, Tryd.ntmps59
  go_wp2_with fail
  refine (Tryd.strings_Join_none a c sep _).mono ?_
  rintro e w1 ⟨rfl, rfl⟩
  go_wp2_with fail
  go_ret
  exact ⟨rfl, rfl⟩

theorem outL_len (xs : List ByteArray) (sep : ByteArray) (hsep : sep.size ≤ 200) (hx : ∀ j (hj : j < xs.length), xs[j].size ≤ 200) : ∀ k, k ≤ xs.length → (outL xs sep k).length ≤ 400 * k
  | 0, _ => by simp [outL_zero]
  | k + 1, h => by
    have hk := hx k (by omega)
    have e1 : xs[k].data.toList.length = xs[k].size := by simp
    have e2 : sep.data.toList.length = sep.size := by simp
    by_cases h0 : k = 0
    · subst h0
      rw [outL_one xs sep (by omega)]; omega
    · have := outL_len xs sep hsep hx k (by omega)
      rw [outL_succ xs sep k (by omega) (by omega), List.length_append, List.length_append]
      omega


end Go.Proofs.YtbcbnoeplapblaaDoor

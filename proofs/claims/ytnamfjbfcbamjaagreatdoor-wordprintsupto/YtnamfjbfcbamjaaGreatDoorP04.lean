/-
  Texts in quotes, plainly.
  chars.Quote.
  The document's Quote.
-/
import Derived.Lib.Replace
import Derived.Lib.Strings
import Derived.Test.YtnamfjbfcbamjaaGreatDoorP03
import Derived.Lib.ReplaceLaws
namespace Go.Proofs.YtnamfjbfcbamjaaGreatDoor
def repAll (old new : List UInt8) : Nat → List UInt8 → List UInt8
  | 0, s => s
  | _ + 1, [] => []
  | f + 1, c :: l => if old.isPrefixOf (c :: l) then new ++ repAll old new f ((c :: l).drop old.length) else c :: repAll old new f l
theorem index_no {old : List UInt8} {c : UInt8} {l : List UInt8} (h : old.isPrefixOf (c :: l) = false) : Lib.index (c :: l) old = if Lib.index l old == -1 then -1 else Lib.index l old + 1 := by
  rw [Lib.index, h]; rfl
theorem index_yes {old : List UInt8} {c : UInt8} {l : List UInt8} (h : old.isPrefixOf (c :: l) = true) : Lib.index (c :: l) old = 0 := by
  rw [Lib.index, h]; rfl
theorem replaceK_no {old new : List UInt8} {c : UInt8} {l : List UInt8} (h : old.isPrefixOf (c :: l) = false) (k : Nat) : Lib.replaceK old new k (c :: l) = c :: Lib.replaceK old new k l := by
  cases k with
  | zero => rfl
  | succ k =>
    rw [Lib.replaceK, Lib.replaceK, index_no h]
    have hge := Lib.index_ge l old
    by_cases e : Lib.index l old = -1
    · simp [e]
    · obtain ⟨i, hi⟩ : ∃ i : Nat, Lib.index l old = i := ⟨(Lib.index l old).toNat, by omega⟩
      have e1 : ((i : Int) == -1) = false := by rw [beq_eq_false_iff_ne]; omega
      have e2 : ((i : Int) + 1 == -1) = false := by rw [beq_eq_false_iff_ne]; omega
      have e3 : ((i : Int) + 1).toNat = i + 1 := by omega
      rw [hi, e1]
      simp only [Bool.false_eq_true, if_false, e2, e3, Int.toNat_natCast, List.take_succ_cons, List.cons_append]
      have e4 : i + 1 + old.length = (i + old.length) + 1 := by omega
      rw [e4, List.drop_succ_cons]
theorem countFrom_no {old : List UInt8} {c : UInt8} {l : List UInt8} (h : old.isPrefixOf (c :: l) = false) (g : Nat) : Lib.countFrom old g (c :: l) = Lib.countFrom old g l := by
  cases g with
  | zero => rfl
  | succ g =>
    rw [Lib.countFrom, Lib.countFrom, index_no h]
    have hge := Lib.index_ge l old
    by_cases e : Lib.index l old = -1
    · simp [e]
    · obtain ⟨i, hi⟩ : ∃ i : Nat, Lib.index l old = i := ⟨(Lib.index l old).toNat, by omega⟩
      have e1 : ((i : Int) == -1) = false := by rw [beq_eq_false_iff_ne]; omega
      have e2 : ((i : Int) + 1 == -1) = false := by rw [beq_eq_false_iff_ne]; omega
      have e3 : ((i : Int) + 1).toNat = i + 1 := by omega
      rw [hi, e1]
      simp only [Bool.false_eq_true, if_false, e2, e3, Int.toNat_natCast]
      have e4 : i + 1 + old.length = (i + old.length) + 1 := by omega
      rw [e4, List.drop_succ_cons]
theorem replaceK_yes {old new : List UInt8} {c : UInt8} {l : List UInt8} (h : old.isPrefixOf (c :: l) = true) (k : Nat) : Lib.replaceK old new (k + 1) (c :: l) = new ++ Lib.replaceK old new k ((c :: l).drop old.length) := by
  rw [Lib.replaceK, index_yes h]
  have e1 : ((0 : Int) == -1) = false := by decide
  rw [e1]
  simp
theorem countFrom_yes {old : List UInt8} {c : UInt8} {l : List UInt8} (h : old.isPrefixOf (c :: l) = true) (g : Nat) : Lib.countFrom old (g + 1) (c :: l) = Lib.countFrom old g ((c :: l).drop old.length) + 1 := by
  rw [Lib.countFrom, index_yes h]
  have e1 : ((0 : Int) == -1) = false := by decide
  rw [e1]
  simp
  omega
theorem repAll_nil {old new : List UInt8} (f : Nat) : repAll old new f [] = [] := by cases f <;> rfl
theorem replace_eq {old new : List UInt8} (h1 : 1 ≤ old.length) : ∀ (n : Nat) (s : List UInt8), s.length ≤ n → ∀ g, s.length < g → Lib.replaceK old new (Lib.countFrom old g s) s = repAll old new n s := by
  have hnil : Lib.index ([] : List UInt8) old = -1 := by
    rw [Lib.index]
    cases ho : old with
    | nil => rw [ho] at h1; simp at h1
    | cons a t => rfl
  intro n
  induction n with
  | zero =>
    intro s hs g hg
    have : s = [] := List.eq_nil_of_length_eq_zero (by omega)
    subst this
    obtain ⟨g', rfl⟩ : ∃ g', g = g' + 1 := ⟨g - 1, by omega⟩
    rw [Lib.countFrom, hnil]
    rfl
  | succ n ih =>
    intro s hs g hg
    match s, hs, hg with
    | [], _, hg =>
      obtain ⟨g', rfl⟩ : ∃ g', g = g' + 1 := ⟨g - 1, by omega⟩
      rw [Lib.countFrom, hnil]
      rfl
    | c :: l, hs, hg =>
      have hs' : l.length ≤ n := by simpa using hs
      cases hp : old.isPrefixOf (c :: l) with
      | true =>
        obtain ⟨g', rfl⟩ : ∃ g', g = g' + 1 := ⟨g - 1, by omega⟩
        have hd : ((c :: l).drop old.length).length ≤ l.length := by simp; omega
        rw [countFrom_yes hp, replaceK_yes hp, ih _ (by omega) g' (by simp at hg; omega)]
        rw [repAll, if_pos hp]
      | false =>
        rw [countFrom_no hp, replaceK_no hp, ih _ hs' g (by simp at hg; omega)]
        rw [repAll, if_neg (by rw [hp]; decide)]
theorem replaceAll_eq {old new : List UInt8} (h1 : 1 ≤ old.length) (hne : old ≠ new) (s : List UInt8) : Lib.replaceAll s old new = repAll old new s.length s := by
  unfold Lib.replaceAll Lib.replace Lib.replaceNum
  rw [if_neg (by simpa using hne), if_pos (.inl (by decide))]
  exact replace_eq h1 _ s (Nat.le_refl _) _ (Nat.lt_succ_self _)
def qBody : List UInt8 → List UInt8
  | [] => []
  | c :: l => if c = 39 then 39 :: 92 :: 39 :: 39 :: qBody l else c :: qBody l
def quoteL (s : List UInt8) : List UInt8 := 39 :: (qBody s ++ [39])
theorem qBody_39 (l : List UInt8) : qBody (39 :: l) = 39 :: 92 :: 39 :: 39 :: qBody l := by simp [qBody]
theorem qBody_ne {c : UInt8} (h : c ≠ 39) (l : List UInt8) : qBody (c :: l) = c :: qBody l := by simp [qBody, h]
theorem qBody_len : ∀ l : List UInt8, (qBody l).length ≤ 4 * l.length
  | [] => by simp [qBody]
  | c :: l => by
    have := qBody_len l
    by_cases h : c = 39
    · subst h; rw [qBody_39]; simp; omega
    · rw [qBody_ne h]; simp; omega
theorem rep_quote : ∀ (f : Nat) (l : List UInt8), l.length ≤ f → repAll [39] [39, 92, 39, 39] f l = qBody l
  | f, [], _ => by rw [repAll_nil]; rfl
  | 0, _ :: _, h => by simp at h
  | f + 1, c :: l, h => by
    have ih := rep_quote f l (by simpa using h)
    by_cases e : c = 39
    · subst e
      rw [repAll, if_pos (by simp [List.isPrefixOf]), qBody_39]
      simp [ih]
    · rw [repAll, if_neg (by simp [List.isPrefixOf]; exact fun x => e x.symm), ih, qBody_ne e]
theorem replace_quote (l : List UInt8) : Lib.replaceAll l [39] [39, 92, 39, 39] = qBody l := by
  rw [replaceAll_eq (by simp) (by decide), rep_quote _ _ (Nat.le_refl _)]
theorem qBody_append : ∀ (a b : List UInt8), qBody (a ++ b) = qBody a ++ qBody b
  | [], b => by simp [qBody]
  | c :: a, b => by
    by_cases h : c = 39
    · subst h; rw [List.cons_append, qBody_39, qBody_39, qBody_append a b]; simp
    · rw [List.cons_append, qBody_ne h, qBody_ne h, qBody_append a b]; simp
end Go.Proofs.YtnamfjbfcbamjaaGreatDoor
namespace Go.Proofs.YtnamfjbfcbamjaaGreatDoor
open Go.RowKit
theorem ret_str {a b : ByteArray} (h : a = b) : Ending.returned (.string a) = .returned (.string b) := by rw [h]
set_option maxHeartbeats 400000 in
theorem quote_any (s : ByteArray) (w : World) (m : Int) (hm : w.cell? ⟨2, 0, none⟩ = some (.int .i64 m)) (hs : s.size ≤ 10000) :
    Calls Tryz.prog 34 #[.string s] w fun e w' => e = .returned (.string ⟨(quoteL s.data.toList).toArray⟩) ∧ Below w.heap.size w w' := by
  have hc := Lib.countB_mul_le ⟨#[39]⟩ (by decide) s.size s (Nat.le_refl _)
  have hc' : Lib.countB s ⟨#[39]⟩ ≤ 10000 := by
    have : (⟨#[39]⟩ : ByteArray).size = 1 := rfl
    rw [this] at hc; omega
  have hlen : s.size + Lib.countB s ⟨#[39]⟩ * (⟨#[39, 92, 39, 39]⟩ : ByteArray).size ≤ 140737488355328 := by
    have : (⟨#[39, 92, 39, 39]⟩ : ByteArray).size = 4 := rfl
    rw [this]; omega
  have HL := hide hlen
  clear hlen hc hc'
  go_enter Tryz.func34, Tryz.ntmps34
  go_wp2_with fail
  refine (Tryz.strings_ReplaceAll s ⟨#[39]⟩ ⟨#[39, 92, 39, 39]⟩ m w (by omega) hm (by decide) (unhide HL)).mono ?_
  rintro e w1 ⟨rfl, b1⟩
  have er : Lib.replaceAll s.data.toList (⟨#[39]⟩ : ByteArray).data.toList (⟨#[39, 92, 39, 39]⟩ : ByteArray).data.toList = qBody s.data.toList := replace_quote _
  rw [er]
  have hq := qBody_len s.data.toList
  have hql : (qBody s.data.toList).length ≤ 40000 := by
    have : s.data.toList.length = s.size := by simp
    omega
  clear er hq
  go_wp2_with fail
  go_ret
  exact ⟨ret_str rfl, b1⟩
end Go.Proofs.YtnamfjbfcbamjaaGreatDoor
namespace Go.Proofs.YtnamfjbfcbamjaaGreatDoor
open Go.RowKit
theorem own_below {w wr w1 : World} {base : Nat} {v : Value} {l : List UInt8} {o : Obj} (hown : OwnB wr base v l) (hbel : Below base w wr) (hb : base ≤ wr.heap.size) (hg : (wr.alloc o).grownBy w1 v.ownBlock) : Below base w w1 :=
  (hbel.alloc hb o).grown hg (by simp; omega) (fun k hk => (World.ownsRow.lt hown k hk).1)
theorem take_snoc (s : ByteArray) (k : Nat) (h : k < s.size) : s.data.toList.take (k + 1) = s.data.toList.take k ++ [s[k]] := by
  rw [List.take_succ_eq_append_getElem (by simpa using h), data_get s k h]
theorem u8_eq {c : UInt8} (h : (c.toNat : Int) = 39) : c = 39 := by
  apply UInt8.toNat.inj
  have : c.toNat = 39 := by omega
  rw [this]; rfl
theorem u8_ne {c : UInt8} (h : ((c.toNat : Int) == 39) = false) : c ≠ 39 := by
  intro e
  subst e
  exact absurd h (by decide)
theorem three_cells {w : World} : ∀ j u, [Value.int .u8 39, .int .u8 92, .int .u8 39][j]? = some u → (w.alloc (.cells #[.int .u8 39, .int .u8 92, .int .u8 39] 5)).cell? ((⟨w.heap.size, 0, none⟩ : Addr).add j) = some u := by
  intro j u hj
  match j, hj with
  | 0, hj => simp at hj; subst hj; rw [add_at]; go_simp
  | 1, hj => simp at hj; subst hj; rw [add_at]; go_simp
  | 2, hj => simp at hj; subst hj; rw [add_at]; go_simp
theorem three_is : ∀ u ∈ [Value.int .u8 39, .int .u8 92, .int .u8 39], u.oneCell' = true := by
  intro u hu
  simp at hu
  rcases hu with rfl | rfl | rfl <;> rfl
theorem own_lit (w : World) (c : UInt8) : OwnB (w.alloc (.cells #[.int .u8 (c.toNat : Int)] 5)) w.heap.size (.slice (some ⟨w.heap.size, 0, none⟩) 1 1) [c] :=
  World.ownsRow_lit w #[.int .u8 (c.toNat : Int)] 1 (Nat.le_refl _) (by decide) rfl
set_option maxHeartbeats 1000000 in
theorem rquote_any (s : ByteArray) (w : World) (hs : s.size ≤ 10000) :
    Calls Tryz.prog 70 #[.string s] w fun e w' => e = .returned (.string ⟨(quoteL s.data.toList).toArray⟩) ∧ Below w.heap.size w w' := by
  obtain ⟨i0, hi, hz0, hz1, hz2⟩ := info_of info_byte
  have hlit := own_lit w 39
  have HLIT : Hid (OwnB (w.alloc (.cells #[.int .u8 39] 5)) w.heap.size (.slice (some ⟨w.heap.size, 0, none⟩) 1 1) [39]) := hide hlit
  clear hlit
  go_enter Tryz.func70, Tryz.ntmps70
  go_wp2
  go_loopw [3, 4] (fun v i wr => ∃ (k : Nat), k ≤ s.size ∧ i = .int .i64 k ∧ OwnB wr w.heap.size v (39 :: qBody (s.data.toList.take k)) ∧ Below w.heap.size w wr) (fun _ i _ => s.size - (intOf i).toNat)
  case atStart => exact ⟨0, Nat.zero_le _, rfl, unhide HLIT, (Below.refl _ _).alloc (Nat.le_refl _) _⟩
  case round =>
    obtain ⟨k, hk, rfl, hown, hbel⟩ := hrel
    have hql := qBody_len (s.data.toList.take k)
    have hlen : (39 :: qBody (s.data.toList.take k)).length ≤ 40001 := by
      have : (s.data.toList.take k).length ≤ k := List.length_take_le _ _
      simp only [List.length_cons]; omega
    clear hql
    obtain ⟨O, hO⟩ : ∃ O, O = 39 :: qBody (s.data.toList.take k) := ⟨_, rfl⟩
    rw [← hO] at hown hlen
    have HO := hide hO
    clear hO
    by_cases hlt : k < s.size
    · have hts := take_snoc s k hlt
      have HTS := hide hts
      clear hts
      rcases Bool.eq_false_or_eq_true ((s[k].toNat : Int) == 39) with h1 | h1
      · have h39 : s[k] = 39 := u8_eq (by simpa using h1)
        have H39 := hide h39
        clear h39
        go_wp2_with (first
          | (at_builtin; refine wpList_append_own _ rfl (.tmp 16) (.tmp 17) 49 rfl w.heap.size 5 i0 (.int .u8 0) 1 1 und_bytes hi hz0 hz1 hz2 rfl (by decide) _ _ _ rfl (hown.alloc _) ⟨wr.heap.size, 0, none⟩ 3 3 [.int .u8 39, .int .u8 92, .int .u8 39] rfl rfl three_cells three_is ?a3 ?a4 ?a5 ?_)
          | go_in)
        case a3 => unfold maxLen; omega
        case a4 => omega
        case a5 => have := hbel.size; simp; omega
        intro v1 w1 hown' hgrow _
        have hb1 := own_below hown hbel hbel.size hgrow
        have ho1 : OwnB w1 w.heap.size v1 (O ++ [39, 92, 39]) := own_push (zs := [.int .u8 39, .int .u8 92, .int .u8 39]) rfl (by simp [Lib.byteCells]) hown'
        obtain ⟨O1, hO1⟩ : ∃ O1, O1 = O ++ [39, 92, 39] := ⟨_, rfl⟩
        rw [← hO1] at ho1
        have hlen1 : O1.length ≤ 40004 := by rw [hO1]; simp; omega
        have HO1 := hide hO1
        clear hown' hgrow hown hbel hO1
        go_wp2_with (first
          | (at_builtin; refine wpList_append_own _ rfl (.tmp 19) (.tmp 23) 49 rfl w.heap.size 5 i0 (.int .u8 0) 1 1 und_bytes hi hz0 hz1 hz2 rfl (by decide) _ _ _ rfl (ho1.alloc _) ⟨w1.heap.size, 0, none⟩ 1 1 [.int .u8 (s[k].toNat : Int)] rfl rfl one_cell one_is ?b3 ?b4 ?b5 ?_)
          | go_in)
        case b3 => unfold maxLen; omega
        case b4 => omega
        case b5 => have := hb1.size; simp; omega
        intro v2 w2 hown2 hgrow2 _
        have hb2 := own_below ho1 hb1 hb1.size hgrow2
        have ho2 : OwnB w2 w.heap.size v2 (O1 ++ [s[k]]) := own_push (zs := [.int .u8 (s[k].toNat : Int)]) rfl (by simp [Lib.byteCells]) hown2
        have e2 : O1 ++ [s[k]] = 39 :: qBody (s.data.toList.take (k + 1)) := by
          rw [unhide HTS, qBody_append, unhide HO1, unhide HO, unhide H39, qBody_39]; simp [qBody]
        rw [e2] at ho2
        clear hown2 hgrow2 ho1 hb1 e2
        go_wp2
        go_roundw
        case rel => exact ⟨k + 1, by omega, by go_num, ho2, hb2⟩
        case measure => simp [intOf]; omega
      · have h39 : s[k] ≠ 39 := u8_ne h1
        have H39 := hide h39
        clear h39
        go_wp2_with (first
          | (at_builtin; refine wpList_append_own _ rfl (.tmp 19) (.tmp 23) 49 rfl w.heap.size 5 i0 (.int .u8 0) 1 1 und_bytes hi hz0 hz1 hz2 rfl (by decide) _ _ _ rfl (hown.alloc _) ⟨wr.heap.size, 0, none⟩ 1 1 [.int .u8 (s[k].toNat : Int)] rfl rfl one_cell one_is ?d3 ?d4 ?d5 ?_)
          | go_in)
        case d3 => unfold maxLen; omega
        case d4 => omega
        case d5 => have := hbel.size; simp; omega
        intro v2 w2 hown2 hgrow2 _
        have hb2 := own_below hown hbel hbel.size hgrow2
        have ho2 : OwnB w2 w.heap.size v2 (O ++ [s[k]]) := own_push (zs := [.int .u8 (s[k].toNat : Int)]) rfl (by simp [Lib.byteCells]) hown2
        have e2 : O ++ [s[k]] = 39 :: qBody (s.data.toList.take (k + 1)) := by
          rw [unhide HTS, qBody_append, unhide HO, qBody_ne (unhide H39)]; simp [qBody]
        rw [e2] at ho2
        clear hown2 hgrow2 hown hbel e2
        go_wp2
        go_roundw
        case rel => exact ⟨k + 1, by omega, by go_num, ho2, hb2⟩
        case measure => simp [intOf]; omega
    · go_wp2_with (first
        | (at_builtin; refine wpList_append_own _ rfl (.tmp 25) (.tmp 26) 49 rfl w.heap.size 5 i0 (.int .u8 0) 1 1 und_bytes hi hz0 hz1 hz2 rfl (by decide) _ _ _ rfl (hown.alloc _) ⟨wr.heap.size, 0, none⟩ 1 1 [.int .u8 39] rfl rfl one_cell one_is ?f3 ?f4 ?f5 ?_)
        | go_in)
      case f3 => unfold maxLen; omega
      case f4 => omega
      case f5 => have := hbel.size; simp; omega
      intro v2 w2 hown2 hgrow2 _
      have hb2 := own_below hown hbel hbel.size hgrow2
      have ho2 : OwnB w2 w.heap.size v2 (O ++ [39]) := own_push (zs := [.int .u8 39]) rfl (by simp [Lib.byteCells]) hown2
      have hcv := ho2.text
      clear hown2 hgrow2 hown hbel
      go_wp2
      go_ret
      exact ⟨ret_str (by rw [unhide HO, List.take_of_length_le (by simp; omega)]; rfl), hb2⟩
end Go.Proofs.YtnamfjbfcbamjaaGreatDoor

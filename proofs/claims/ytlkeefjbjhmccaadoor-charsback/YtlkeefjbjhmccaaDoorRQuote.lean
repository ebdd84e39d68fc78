/-
  The contracts of the document's 'Quote' and 'Unquote'.
-/
import Derived.Test.YtlkeefjbjhmccaaDoorOwn
import Derived.Test.YtlkeefjbjhmccaaDoorQuote
namespace Go.Proofs.YtlkeefjbjhmccaaDoor
open Go.RowKit

theorem qBody_append : ∀ (a b : List UInt8), qBody (a ++ b) = qBody a ++ qBody b
  | [], b => by simp [qBody]
  | c :: a, b => by
    by_cases h : c = 39
    · subst h; rw [List.cons_append, qBody_39, qBody_39, qBody_append a b]; simp
    · rw [List.cons_append, qBody_ne h, qBody_ne h, qBody_append a b]; simp
theorem take_snoc (s : ByteArray) (k : Nat) (h : k < s.size) : s.data.toList.take (k + 1) = s.data.toList.take k ++ [s[k]] := by
  rw [List.take_succ_eq_append_getElem (by simpa using h), data_get s k h]
theorem u8_eq {c : UInt8} (h : (c.toNat : Int) = 39) : c = 39 := by
  apply UInt8.toNat.inj
  have : c.toNat = 39 := by omega
  rw [this]; rfl
theorem u8_ne {c : UInt8} (h : ((c.toNat : Int) == 39) = false) : c ≠ 39 := by
  intro e
  subst e
  exact absurd h (by decide)

theorem three_cells {w : World} : ∀ j u, [Value.int .u8 39, .int .u8 92, .int .u8 39][j]? = some u → (w.alloc (.cells #[.int .u8 39, .int .u8 92, .int .u8 39] 5)).cell? ((⟨w.heap.size, 0, none⟩ : Addr).add j) = some u := by
  intro j u hj
  match j, hj with
  | 0, hj => simp at hj; subst hj; rw [add_at]; go_simp
  | 1, hj => simp at hj; subst hj; rw [add_at]; go_simp
  | 2, hj => simp at hj; subst hj; rw [add_at]; go_simp
theorem three_is : ∀ u ∈ [Value.int .u8 39, .int .u8 92, .int .u8 39], u.oneCell' = true := by
  intro u hu
  simp at hu
  rcases hu with rfl | rfl | rfl <;> rfl
theorem own_lit (w : World) (c : UInt8) : OwnB (w.alloc (.cells #[.int .u8 (c.toNat : Int)] 5)) w.heap.size (.slice (some ⟨w.heap.size, 0, none⟩) 1 1) [c] :=
  World.ownsRow_lit w #[.int .u8 (c.toNat : Int)] 1 (Nat.le_refl _) (by decide) rfl

set_option maxHeartbeats 1000000 in
theorem rquote_any (s : ByteArray) (w : World) (hs : s.size ≤ 10000) :
    Calls Tryd.prog 29 #[.string s] w fun e w' => e = .returned (.string ⟨(quoteL s.data.toList).toArray⟩) ∧ Below w.heap.size w w' := by
  obtain ⟨i0, hi, hz0, hz1, hz2⟩ := info_parts info5
  have hlit := own_lit w 39
  have HLIT : Hid (OwnB (w.alloc (.cells #[.int .u8 39] 5)) w.heap.size (.slice (some ⟨w.heap.size, 0, none⟩) 1 1) [39]) := hide hlit
  clear hlit
  go_enter Tryd.func29, Tryd.ntmps29
  go_wp2
  go_loopw [3, 4] (fun v i wr => ∃ (k : Nat), k ≤ s.size ∧ i = .int .i64 k ∧ OwnB wr w.heap.size v (39 :: qBody (s.data.toList.take k)) ∧ Below w.heap.size w wr) (fun _ i _ => s.size - (intOf i).toNat)
  case atStart => exact ⟨0, Nat.zero_le _, rfl, unhide HLIT, (Below.refl _ _).alloc (Nat.le_refl _) _⟩
  case round =>
    obtain ⟨k, hk, rfl, hown, hbel⟩ := hrel
    have hql := qBody_len (s.data.toList.take k)
    have hlen : (39 :: qBody (s.data.toList.take k)).length ≤ 40001 := by
      have : (s.data.toList.take k).length ≤ k := List.length_take_le _ _
      simp only [List.length_cons]; omega
    clear hql
    obtain ⟨O, hO⟩ : ∃ O, O = 39 :: qBody (s.data.toList.take k) := ⟨_, rfl⟩
    rw [← hO] at hown hlen
    have HO := hide hO
    clear hO
    by_cases hlt : k < s.size
    · have hts := take_snoc s k hlt
      have HTS := hide hts
      clear hts
      rcases Bool.eq_false_or_eq_true ((s[k].toNat : Int) == 39) with h1 | h1
      · have h39 : s[k] = 39 := u8_eq (by simpa using h1)
        have H39 := hide h39
        clear h39
        go_wp2_with (first
          | (at_builtin; refine wpList_append_own _ rfl (.tmp 16) (.tmp 17) 42 rfl w.heap.size 5 i0 (.int .u8 0) 1 1 Tryd.underlying42 hi hz0 hz1 hz2 rfl (by decide) _ _ _ rfl (hown.alloc _) ⟨wr.heap.size, 0, none⟩ 3 3 [.int .u8 39, .int .u8 92, .int .u8 39] rfl rfl three_cells three_is ?a3 ?a4 ?a5 ?_)
          | go_in)
        case a3 => unfold maxLen; omega
        case a4 => omega
        case a5 => have := hbel.size; simp; omega
        intro v1 w1 hown' hgrow _
        have hb1 := own_below hown hbel hbel.size hgrow
        have ho1 : OwnB w1 w.heap.size v1 (O ++ [39, 92, 39]) := own_push (zs := [.int .u8 39, .int .u8 92, .int .u8 39]) rfl (by simp [Lib.byteCells]) hown'
        obtain ⟨O1, hO1⟩ : ∃ O1, O1 = O ++ [39, 92, 39] := ⟨_, rfl⟩
        rw [← hO1] at ho1
        have hlen1 : O1.length ≤ 40004 := by rw [hO1]; simp; omega
        have HO1 := hide hO1
        clear hown' hgrow hown hbel hO1
        go_wp2_with (first
          | (at_builtin; refine wpList_append_own _ rfl (.tmp 19) (.tmp 23) 42 rfl w.heap.size 5 i0 (.int .u8 0) 1 1 Tryd.underlying42 hi hz0 hz1 hz2 rfl (by decide) _ _ _ rfl (ho1.alloc _) ⟨w1.heap.size, 0, none⟩ 1 1 [.int .u8 (s[k].toNat : Int)] rfl rfl one_cell one_is ?b3 ?b4 ?b5 ?_)
          | go_in)
        case b3 => unfold maxLen; omega
        case b4 => omega
        case b5 => have := hb1.size; simp; omega
        intro v2 w2 hown2 hgrow2 _
        have hb2 := own_below ho1 hb1 hb1.size hgrow2
        have ho2 : OwnB w2 w.heap.size v2 (O1 ++ [s[k]]) := own_push (zs := [.int .u8 (s[k].toNat : Int)]) rfl (by simp [Lib.byteCells]) hown2
        have e2 : O1 ++ [s[k]] = 39 :: qBody (s.data.toList.take (k + 1)) := by
          rw [unhide HTS, qBody_append, unhide HO1, unhide HO, unhide H39, qBody_39]; simp [qBody]
        rw [e2] at ho2
        clear hown2 hgrow2 ho1 hb1 e2
        go_wp2
        go_roundw
        case rel => exact ⟨k + 1, by omega, by go_num, ho2, hb2⟩
        case measure => simp [intOf]; omega
      · have h39 : s[k] ≠ 39 := u8_ne h1
        have H39 := hide h39
        clear h39
        go_wp2_with (first
          | (at_builtin; refine wpList_append_own _ rfl (.tmp 19) (.tmp 23) 42 rfl w.heap.size 5 i0 (.int .u8 0) 1 1 Tryd.underlying42 hi hz0 hz1 hz2 rfl (by decide) _ _ _ rfl (hown.alloc _) ⟨wr.heap.size, 0, none⟩ 1 1 [.int .u8 (s[k].toNat : Int)] rfl rfl one_cell one_is ?d3 ?d4 ?d5 ?_)
          | go_in)
        case d3 => unfold maxLen; omega
        case d4 => omega
        case d5 => have := hbel.size; simp; omega
        intro v2 w2 hown2 hgrow2 _
        have hb2 := own_below hown hbel hbel.size hgrow2
        have ho2 : OwnB w2 w.heap.size v2 (O ++ [s[k]]) := own_push (zs := [.int .u8 (s[k].toNat : Int)]) rfl (by simp [Lib.byteCells]) hown2
        have e2 : O ++ [s[k]] = 39 :: qBody (s.data.toList.take (k + 1)) := by
          rw [unhide HTS, qBody_append, unhide HO, qBody_ne (unhide H39)]; simp [qBody]
        rw [e2] at ho2
        clear hown2 hgrow2 hown hbel e2
        go_wp2
        go_roundw
        case rel => exact ⟨k + 1, by omega, by go_num, ho2, hb2⟩
        case measure => simp [intOf]; omega
    · go_wp2_with (first
        | (at_builtin; refine wpList_append_own _ rfl (.tmp 25) (.tmp 26) 42 rfl w.heap.size 5 i0 (.int .u8 0) 1 1 Tryd.underlying42 hi hz0 hz1 hz2 rfl (by decide) _ _ _ rfl (hown.alloc _) ⟨wr.heap.size, 0, none⟩ 1 1 [.int .u8 39] rfl rfl one_cell one_is ?f3 ?f4 ?f5 ?_)
        | go_in)
      case f3 => unfold maxLen; omega
      case f4 => omega
      case f5 => have := hbel.size; simp; omega
      intro v2 w2 hown2 hgrow2 _
      have hb2 := own_below hown hbel hbel.size hgrow2
      have ho2 : OwnB w2 w.heap.size v2 (O ++ [39]) := own_push (zs := [.int .u8 39]) rfl (by simp [Lib.byteCells]) hown2
      have hcv := ho2.text
      clear hown2 hgrow2 hown hbel
      go_wp2
      go_ret
      exact ⟨ret_str (by rw [unhide HO, List.take_of_length_le (by simp; omega)]; rfl), hb2⟩

theorem unq_ok {q o : List UInt8} (h : q = quoteL o) : unqV q = o ∧ unqE q = 0 := by
  subst h
  unfold unqV unqE
  rw [back_quote, if_pos rfl, if_pos rfl]
  exact ⟨rfl, rfl⟩
theorem unq_bad {q : List UInt8} (h : ∀ s, q ≠ quoteL s) : unqV q = [] ∧ unqE q = 11 := by
  unfold unqV unqE
  rw [if_neg (fun e => h _ e.symm), if_neg (fun e => h _ e.symm)]
  exact ⟨rfl, rfl⟩
/-- A text whose way back stops ahead of its last byte, or that begins otherwise, is none in quotes. -/
theorem unq_stop {q o r : List UInt8} (hd : q.drop 1 = qBody o ++ r) (hs : Stops r) (hr : r ≠ [39]) : unqV q = [] ∧ unqE q = 11 := by
  refine unq_bad fun s e => ?_
  subst e
  rw [quoteL, List.drop_succ_cons, List.drop_zero] at hd
  exact hr (stop_one o s r hd hs).2
theorem unq_head {q : ByteArray} (h0 : 0 < q.size) (h : ((q[0].toNat : Int) == 39) = false) : unqV q.data.toList = [] ∧ unqE q.data.toList = 11 := by
  refine unq_bad fun s e => ?_
  have hg := data_get q 0 h0
  simp only [e, quoteL, List.getElem_cons_zero] at hg
  rw [← hg] at h
  exact absurd h (by decide)
theorem unq_none {q : ByteArray} (h0 : q.size = 0) : unqV q.data.toList = [] ∧ unqE q.data.toList = 11 := by
  refine unq_bad fun s e => ?_
  have : q.data.toList.length = 0 := by simpa using h0
  rw [e] at this
  simp [quoteL] at this
theorem drop_one {q : ByteArray} {k : Nat} (h : k < q.size) : q.data.toList.drop k = q[k] :: q.data.toList.drop (k + 1) := by
  rw [List.drop_eq_getElem_cons (by simpa using h), data_get q k h]
theorem unq_last {q : ByteArray} {o : List UInt8} {k : Nat} (hd : q.data.toList.drop 1 = qBody o ++ q.data.toList.drop k) (hk : k + 1 = q.size) (h0 : ((q[0].toNat : Int) == 39) = true) (h1 : ((q[k].toNat : Int) == 39) = true) : unqV q.data.toList = o ∧ unqE q.data.toList = 0 := by
  refine unq_ok ?_
  have e0 : q.data.toList = q[0] :: q.data.toList.drop 1 := by have := drop_one (q := q) (k := 0) (by omega); simpa using this
  have ek := drop_one (q := q) (k := k) (by omega)
  have en : q.data.toList.drop (k + 1) = [] := List.drop_eq_nil_of_le (by simp; omega)
  rw [e0, hd, ek, en, u8_eq (c := q[0]) (by simpa using h0), u8_eq (c := q[k]) (by simpa using h1)]
  rfl
theorem extract_four {q : ByteArray} {k : Nat} (h : k + 3 < q.size) : (q.extract k (k + 4)).toList = [q[k], q[k + 1], q[k + 2], q[k + 3]] := by
  rw [Lib.extract_toList, drop_one (k := k) (by omega), drop_one (k := k + 1) (by omega), drop_one (k := k + 1 + 1) (by omega), drop_one (k := k + 1 + 1 + 1) (by omega)]
  have : k + 4 - k = 4 := by omega
  rw [this]
  rfl
theorem drop_four {q : ByteArray} {k : Nat} (h : k + 3 < q.size) : q.data.toList.drop k = [q[k], q[k + 1], q[k + 2], q[k + 3]] ++ q.data.toList.drop (k + 4) := by
  rw [drop_one (k := k) (by omega), drop_one (k := k + 1) (by omega), drop_one (k := k + 1 + 1) (by omega), drop_one (k := k + 1 + 1 + 1) (by omega)]
  rfl

set_option maxHeartbeats 2000000 in
theorem runquote_any (q : ByteArray) (w : World) (hs : q.size ≤ 9000) :
    Calls Tryd.prog 27 #[.string q] w fun e w' => e = .returned (.tuple #[.string ⟨(unqV q.data.toList).toArray⟩, .int .i64 (unqE q.data.toList)]) ∧ Below w.heap.size w w' := by
  obtain ⟨i0, hi, hz0, hz1, hz2⟩ := info_parts info5
  go_enter Tryd.func27, Tryd.ntmps27
  go_wp2
  go_loopw [4, 5] (fun v i wr => ∃ (k : Nat) (O : List UInt8), 1 ≤ k ∧ k ≤ q.size + 1 ∧ i = .int .i64 k ∧ O.length ≤ k ∧ q.data.toList.drop 1 = qBody O ++ q.data.toList.drop k ∧ OwnB wr w.heap.size v O ∧ Below w.heap.size w wr) (fun _ i _ => q.size + 1 - (intOf i).toNat)
  case atStart => exact ⟨1, [], Nat.le_refl _, by omega, rfl, by simp, rfl, ownB_nil _ _, Below.refl _ _⟩
  case round =>
    obtain ⟨k, O, hk1, hk2, rfl, hOl, hd, hown, hbel⟩ := hrel
    have HD := hide hd
    clear hd
    by_cases hlt : k < q.size
    · rcases Bool.eq_false_or_eq_true ((q[k].toNat : Int) == 39) with h1 | h1
      · by_cases h3 : k + 3 < q.size
        · rcases Bool.eq_false_or_eq_true ((q.extract k (k + 4)).toList == [39, 92, 39, 39]) with hx | hx
          · have h1' : (q[k].toNat : Int) = 39 := by simpa using h1
            go_wp2_with (first
              | (at_builtin; refine wpList_append_own _ rfl (.tmp 37) (.tmp 41) 42 rfl w.heap.size 5 i0 (.int .u8 0) 1 1 Tryd.underlying42 hi hz0 hz1 hz2 rfl (by decide) _ _ _ rfl (hown.alloc _) ⟨wr.heap.size, 0, none⟩ 1 1 [.int .u8 (q[k + 3].toNat : Int)] rfl rfl one_cell one_is ?b3 ?b4 ?b5 ?_)
              | go_in)
            case b3 => unfold maxLen; omega
            case b4 => omega
            case b5 => have := hbel.size; simp; omega
            intro v2 w2 hown2 hgrow2 _
            have hb2 := own_below hown hbel hbel.size hgrow2
            have ho2 : OwnB w2 w.heap.size v2 (O ++ [q[k + 3]]) := own_push (zs := [.int .u8 (q[k + 3].toNat : Int)]) rfl (by simp [Lib.byteCells]) hown2
            have hd2 : q.data.toList.drop 1 = qBody (O ++ [q[k + 3]]) ++ q.data.toList.drop (k + 4) := by
              have e4 := extract_four h3
              rw [e4] at hx
              simp only [beq_iff_eq, List.cons.injEq, and_true] at hx
              obtain ⟨x0, x1, x2, x3⟩ := hx
              rw [unhide HD, qBody_append, drop_four h3, x0, x1, x2, x3, qBody_39]
              simp [qBody]
            have HD2 := hide hd2
            have hO2 : (O ++ [q[k + 3]]).length ≤ k + 4 := by simp; omega
            clear hown2 hgrow2 hown hbel hd2 hx
            go_wp2
            go_roundw
            case rel => exact ⟨k + 4, O ++ [q[k + 3]], by omega, by omega, by go_num, hO2, unhide HD2, ho2, hb2⟩
            case measure => simp [intOf]; omega
          · have h1' : (q[k].toNat : Int) = 39 := by simpa using h1
            have h0q : 0 < q.size := by omega
            have he := nonempty_of h0q
            have hkn : ¬ (k : Int) = (q.size : Int) - 1 := by omega
            have hst : Stops (q.data.toList.drop k) := by
              refine .inr ⟨[q[k + 1], q[k + 2], q[k + 3]] ++ q.data.toList.drop (k + 4), ?_, ?_⟩
              · rw [drop_four h3, u8_eq h1']; rfl
              · rintro ⟨t, ht⟩
                have e4 := extract_four h3
                rw [e4, u8_eq h1'] at hx
                simp only [List.cons_append, List.cons.injEq] at ht
                rw [ht.1, ht.2.1, ht.2.2.1] at hx
                exact absurd hx (by decide)
            have X := unq_stop (unhide HD) hst (by rw [drop_four h3]; simp)
            have HX := hide X
            clear X hst
            by_cases h0 : (q[0].toNat : Int) = 39
            · go_wp2
              go_ret2
              exact ⟨ret_se (by rw [(unhide HX).1]) (by rw [(unhide HX).2]), hbel⟩
            · go_wp2
              go_ret2
              exact ⟨ret_se (by rw [(unhide HX).1]) (by rw [(unhide HX).2]), hbel⟩
        · have h1' : (q[k].toNat : Int) = 39 := by simpa using h1
          have h0q : 0 < q.size := by omega
          have he := nonempty_of h0q
          have hst : Stops (q.data.toList.drop k) := by
            refine .inr ⟨q.data.toList.drop (k + 1), ?_, ?_⟩
            · rw [drop_one hlt, u8_eq h1']
            · rintro ⟨t, ht⟩
              have := congrArg List.length ht
              simp at this; omega
          by_cases h0 : (q[0].toNat : Int) = 39
          · by_cases hkl : k + 1 = q.size
            · have X := unq_last (unhide HD) hkl (by simpa using h0) h1
              have hkn : (k : Int) + 1 = (q.size : Int) := by omega
              have HX := hide X
              have hcv := hown.text
              have hq1 : q.size - 1 < q.size := by omega
              have hlast : ((q[q.size - 1]'hq1).toNat : Int) = 39 := by
                have e : k = q.size - 1 := by omega
                subst e
                exact h1'
              clear X hst hkl
              go_wp2
              go_ret2
              exact ⟨ret_se (by rw [(unhide HX).1]) (by rw [(unhide HX).2]), hbel⟩
            · have X := unq_stop (unhide HD) hst (by
                intro e
                have := congrArg List.length e
                simp at this; omega)
              have hkn : ¬ (k : Int) = (q.size : Int) - 1 := by omega
              have HX := hide X
              clear X hst
              go_wp2
              go_ret2
              exact ⟨ret_se (by rw [(unhide HX).1]) (by rw [(unhide HX).2]), hbel⟩
          · have HX := hide (unq_head h0q (by simpa using h0))
            clear hst
            go_wp2
            go_ret2
            exact ⟨ret_se (by rw [(unhide HX).1]) (by rw [(unhide HX).2]), hbel⟩
      · have h39 : q[k] ≠ 39 := u8_ne h1
        have h1' : ¬ (q[k].toNat : Int) = 39 := by simpa using h1
        clear h1
        have H39 := hide h39
        clear h39
        go_wp2_with (first
          | (at_builtin; refine wpList_append_own _ rfl (.tmp 37) (.tmp 41) 42 rfl w.heap.size 5 i0 (.int .u8 0) 1 1 Tryd.underlying42 hi hz0 hz1 hz2 rfl (by decide) _ _ _ rfl (hown.alloc _) ⟨wr.heap.size, 0, none⟩ 1 1 [.int .u8 (q[k].toNat : Int)] rfl rfl one_cell one_is ?d3 ?d4 ?d5 ?_)
          | go_in)
        case d3 => unfold maxLen; omega
        case d4 => omega
        case d5 => have := hbel.size; simp; omega
        intro v2 w2 hown2 hgrow2 _
        have hb2 := own_below hown hbel hbel.size hgrow2
        have ho2 : OwnB w2 w.heap.size v2 (O ++ [q[k]]) := own_push (zs := [.int .u8 (q[k].toNat : Int)]) rfl (by simp [Lib.byteCells]) hown2
        have hd2 : q.data.toList.drop 1 = qBody (O ++ [q[k]]) ++ q.data.toList.drop (k + 1) := by
          rw [unhide HD, qBody_append, drop_one hlt, qBody_ne (unhide H39)]
          simp [qBody]
        have HD2 := hide hd2
        have hO2 : (O ++ [q[k]]).length ≤ k + 1 := by simp; omega
        clear hown2 hgrow2 hown hbel hd2
        go_wp2
        go_roundw
        case rel => exact ⟨k + 1, O ++ [q[k]], by omega, by omega, by go_num, hO2, unhide HD2, ho2, hb2⟩
        case measure => simp [intOf]; omega
    · have hst : Stops (q.data.toList.drop k) := .inl (List.drop_eq_nil_of_le (by simp; omega))
      have X := unq_stop (unhide HD) hst (by
        intro e
        have := congrArg List.length e
        simp at this; omega)
      have HX := hide X
      clear X hst
      by_cases h0q : q.size = 0
      · have he := empty_of h0q
        go_wp2
        go_ret2
        exact ⟨ret_se (by rw [(unhide HX).1]) (by rw [(unhide HX).2]), hbel⟩
      · have h0p : 0 < q.size := by omega
        have he := nonempty_of h0p
        have hkn : ¬ (k : Int) = (q.size : Int) - 1 := by omega
        by_cases h0 : (q[0].toNat : Int) = 39
        · go_wp2
          go_ret2
          exact ⟨ret_se (by rw [(unhide HX).1]) (by rw [(unhide HX).2]), hbel⟩
        · go_wp2
          go_ret2
          exact ⟨ret_se (by rw [(unhide HX).1]) (by rw [(unhide HX).2]), hbel⟩

end Go.Proofs.YtlkeefjbjhmccaaDoor

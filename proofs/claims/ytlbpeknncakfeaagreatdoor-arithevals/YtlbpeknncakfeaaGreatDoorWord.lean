/-
  A name or a number's word: the reader's 'word'.
-/
import Derived.Test.YtlbpeknncakfeaaGreatDoorRep
import Derived.Test.YtlbpeknncakfeaaGreatDoorOper
import Derived.Test.YtlbpeknncakfeaaGreatDoorNames
namespace Go.Proofs.YtlbpeknncakfeaaGreatDoor
open Go.RowKit Go.Maps

theorem Glob.rd {w w' : World} {rb b1 b2 : Nat} {l : List UInt8} {f : Bool} (h : Glob w) (hr : Rd w rb b1 b2 l f) (hg : w.grownBy w' (some rb)) : Glob w' := by
  obtain ⟨⟨v, h1, h2⟩, ⟨u, h3, h4⟩⟩ := h
  have hc := hr.c0
  have n2 : rb ≠ 2 := by
    rintro rfl
    rw [hc] at h1
    cases h1
    rcases h2 with h2 | ⟨_, _, h2⟩ <;> cases h2
  have n3 : rb ≠ 3 := by
    rintro rfl
    rw [hc] at h3
    cases h3
    rcases h4 with h4 | ⟨_, _, h4⟩ <;> cases h4
  exact ⟨⟨v, hg.cell h1 (by simp; omega), h2⟩, ⟨u, hg.cell h3 (by simp; omega), h4⟩⟩

/-- What a method that reads answers: a function value that is the expression, or it has failed. -/
def PEnd (w : World) (rb b1 b2 : Nat) (r : Option (E × List UInt8)) (e : Ending) (w' : World) : Prop :=
  ∃ v, e = .returned v ∧ FnV v ∧ w.grownBy w' (some rb) ∧ match r with
    | some (x, l') => Rd w' rb b1 b2 l' false ∧ (∀ lo, rb < lo → lo ≤ w.heap.size → Rep lo w'.heap.size w' x v)
    | none => Rd w' rb b1 b2 [] true

def wordL (l : List UInt8) : List UInt8 := l.take (spanN namB l)
def pWord (l : List UInt8) : Option (E × List UInt8) :=
  if nameB (BA (wordL l)) then some (.name (wordL l), l.drop (spanN namB l))
  else match atMost 9223372036854775807 (numW (BA (wordL l))) with
    | some n => some (.num n, l.drop (spanN namB l))
    | none => none

theorem extract_drop (l : List UInt8) (k : Nat) : (BA l).extract k l.length = BA (l.drop k) := by
  unfold BA
  apply ByteArray.ext
  rw [ByteArray.data_extract]
  simp
  rw [List.take_of_length_le (by simp)]

set_option maxRecDepth 20000 in
set_option maxHeartbeats 4000000 in
theorem word_any (rb b1 b2 : Nat) (l : List UInt8) (w : World) (h : Rd w rb b1 b2 l false) (hg : Glob w) :
    Calls Tryz.prog 141 #[.pointer (some ⟨rb, 0, none⟩)] w fun e w' => PEnd w rb b1 b2 (pWord l) e w' := by
  have c2 := h.c2
  have d2 := h.blk.frozen 2
  have hlen := h.len
  have H := hide h
  have HG := hide hg
  clear h hg
  obtain ⟨s, hs⟩ : ∃ s, s = BA l := ⟨_, rfl⟩
  have HS := hide hs
  rw [← hs] at c2
  have hsz : s.size = l.length := by rw [hs]; rfl
  have hsl : s.data.toList = l := by rw [hs]; rfl
  clear hs
  have hsz' : s.size ≤ 100000 := by omega
  go_enter Tryz.func141, Tryz.ntmps141
  go_wp2_with fail
  go_loop [3] (fun i => ∃ k : Nat, k ≤ s.size ∧ i = .int .i64 k ∧ AllTo namB s.data.toList k) (fun i => s.size - (intOf i).toNat)
  case atStart => exact ⟨0, by omega, rfl, fun j hj hj0 => by omega⟩
  case round =>
    obtain ⟨k, hk, rfl, hall⟩ := hrel
    by_cases hlt' : k < s.size
    · rcases Bool.eq_false_or_eq_true (alpB (s[k].toNat : Int)) with h2 | h2
      · go_wp2_with (first | (go_at_call 105; refine (alpha_any _ _).mono ?_; rintro e w9 ⟨rfl, hx9⟩; have hx8 := hx9.symm; subst hx8; clear hx9) | (go_at_call 108; refine (digit_any _ _).mono ?_; rintro e w9 ⟨rfl, hx9⟩; have hx8 := hx9.symm; subst hx8; clear hx9))
        go_round
        case rel => exact ⟨k + 1, by omega, by go_num, hall.succ (by simpa using hlt') (by rw [data_get s k hlt']; unfold namB; rw [h2]; rfl)⟩
        case measure => simp [intOf]; omega
      · rcases Bool.eq_false_or_eq_true (digB (s[k].toNat : Int)) with h3 | h3
        · go_wp2_with (first | (go_at_call 105; refine (alpha_any _ _).mono ?_; rintro e w9 ⟨rfl, hx9⟩; have hx8 := hx9.symm; subst hx8; clear hx9) | (go_at_call 108; refine (digit_any _ _).mono ?_; rintro e w9 ⟨rfl, hx9⟩; have hx8 := hx9.symm; subst hx8; clear hx9))
          go_round
          case rel => exact ⟨k + 1, by omega, by go_num, hall.succ (by simpa using hlt') (by rw [data_get s k hlt']; unfold namB; rw [h2, h3]; rfl)⟩
          case measure => simp [intOf]; omega
        · have HSP : Hid (spanN namB l = k) := hide (by rw [← hsl]; exact spanN_stop namB s.data.toList k (by simpa using hlt') hall (by rw [data_get s k hlt']; unfold namB; rw [h2, h3]; rfl))
          go_wp2_with (first | (go_at_call 105; refine (alpha_any _ _).mono ?_; rintro e w9 ⟨rfl, hx9⟩; have hx8 := hx9.symm; subst hx8; clear hx9) | (go_at_call 108; refine (digit_any _ _).mono ?_; rintro e w9 ⟨rfl, hx9⟩; have hx8 := hx9.symm; subst hx8; clear hx9))
          have e1 : s.extract 0 k = BA (wordL l) := by rw [unhide HS, extract_take, wordL, unhide HSP]
          have e2 : s.extract k l.length = BA (l.drop (spanN namB l)) := by rw [unhide HS, extract_drop, unhide HSP]
          rw [e1, e2]
          have hX := (unhide H).set (l.drop (spanN namB l)) (by rw [List.length_drop]; omega)
          have gX := grown_setCell w ⟨rb, 2, none⟩ (.string (BA (l.drop (spanN namB l))))
          obtain ⟨X, hXe⟩ : ∃ X, X = w.setCell ⟨rb, 2, none⟩ (.string (BA (l.drop (spanN namB l)))) := ⟨_, rfl⟩
          rw [← hXe] at hX gX ⊢
          have HGX := hide ((unhide HG).rd (unhide H) gX)
          have HX := hide hX
          have GX := hide gX
          have hwl : (wordL l).length ≤ 100000 := by unfold wordL; rw [List.length_take]; omega
          clear hX gX hXe e1 e2 c2 d2
          refine (name_any (BA (wordL l)) X hwl).mono ?_
          rintro e w9 ⟨rfl, hx9⟩
          have hx8 := hx9.symm
          subst hx8
          clear hx9
          rcases Bool.eq_false_or_eq_true (nameB (BA (wordL l))) with hn | hn
          · rw [hn]
            have HP : Hid (pWord l = some (.name (wordL l), l.drop (spanN namB l))) := hide (by unfold pWord; rw [hn]; rfl)
            clear hn
            go_wp2_with fail
            refine (named_any (wordL l) X hwl).mono ?_
            rintro e w2 ⟨v, rfl, hv, g2, hr⟩
            have HR := hide hr
            clear hr
            go_wp2
            go_ret
            refine ⟨v, rfl, hv, (unhide GX).trans (grown_but g2 _), ?_⟩
            rw [unhide HP]
            exact ⟨(unhide HX).kept g2, fun lo _ hl => unhide HR lo (Nat.le_trans hl (unhide GX).size)⟩
          · rw [hn]
            have hnum := number_any (BA (wordL l)) 9223372036854775807 X hwl (unhide HGX)
            rcases hq : atMost 9223372036854775807 (numW (BA (wordL l))) with _ | n
            · rw [hq] at hnum
              have HP : Hid (pWord l = none) := hide (by unfold pWord; rw [hn, hq]; rfl)
              have HN := hide hnum
              clear hn hq hnum
              go_wp2_with fail
              refine (unhide HN).mono ?_
              rintro e w2 ⟨he, bb2⟩
              have he2 : e = .returned (.tuple #[.int .u64 0, .int .i64 10]) := he
              subst he2
              clear he
              have HX2 := hide ((unhide HX).below bb2)
              have G2 := hide (grown_but (grown_of_below bb2) (some rb))
              clear bb2
              go_wp2_with fail
              refine (fail_any rb b1 b2 _ _ w2 (unhide HX2)).mono ?_
              rintro e w3 ⟨rfl, h3, g3⟩
              have H3 := hide h3
              clear h3
              go_wp2
              go_ret
              refine ⟨_, rfl, .inl rfl, ((unhide GX).trans (unhide G2)).trans g3, ?_⟩
              rw [unhide HP]
              exact unhide H3
            · rw [hq] at hnum
              have HP : Hid (pWord l = some (.num n, l.drop (spanN namB l))) := hide (by unfold pWord; rw [hn, hq]; rfl)
              have HN := hide hnum
              obtain ⟨hnw, hn1⟩ := atMost_some hq
              have hn0 := numW_nonneg hnw
              have hwr : IntKind.i64.wrap n = n := by rw [IntKind.wrap_i64]; omega
              clear hn hq hnum hnw
              go_wp2_with fail
              refine (unhide HN).mono ?_
              rintro e w2 ⟨he, bb2⟩
              have he2 : e = .returned (.tuple #[.int .u64 n, .int .i64 0]) := he
              subst he2
              clear he
              have HX2 := hide ((unhide HX).below bb2)
              have G2 := hide (grown_of_below bb2)
              clear bb2
              go_wp2_with fail
              refine (constant_any n w2 ⟨hn0, hn1⟩).mono ?_
              rintro e w3 ⟨v, rfl, hv, g3, hr⟩
              have HR := hide hr
              clear hr
              go_wp2
              go_ret
              refine ⟨v, rfl, hv, ((unhide GX).trans (grown_but (unhide G2) _)).trans (grown_but g3 _), ?_⟩
              rw [unhide HP]
              exact ⟨(unhide HX2).kept g3, fun lo _ hl => unhide HR lo (Nat.le_trans hl (Nat.le_trans (unhide GX).size (unhide G2).size))⟩
    · have HSP : Hid (spanN namB l = k) := hide (by
        have hkl : k = l.length := by omega
        rw [hkl, ← hsl]
        exact spanN_all namB s.data.toList (fun j hj _ => hall j hj (by simp at hj; omega)))
      go_wp2_with fail
      have e1 : s.extract 0 k = BA (wordL l) := by rw [unhide HS, extract_take, wordL, unhide HSP]
      have e2 : s.extract k l.length = BA (l.drop (spanN namB l)) := by rw [unhide HS, extract_drop, unhide HSP]
      rw [e1, e2]
      have hX := (unhide H).set (l.drop (spanN namB l)) (by rw [List.length_drop]; omega)
      have gX := grown_setCell w ⟨rb, 2, none⟩ (.string (BA (l.drop (spanN namB l))))
      obtain ⟨X, hXe⟩ : ∃ X, X = w.setCell ⟨rb, 2, none⟩ (.string (BA (l.drop (spanN namB l)))) := ⟨_, rfl⟩
      rw [← hXe] at hX gX ⊢
      have HGX := hide ((unhide HG).rd (unhide H) gX)
      have HX := hide hX
      have GX := hide gX
      have hwl : (wordL l).length ≤ 100000 := by unfold wordL; rw [List.length_take]; omega
      clear hX gX hXe e1 e2 c2 d2
      refine (name_any (BA (wordL l)) X hwl).mono ?_
      rintro e w9 ⟨rfl, hx9⟩
      have hx8 := hx9.symm
      subst hx8
      clear hx9
      rcases Bool.eq_false_or_eq_true (nameB (BA (wordL l))) with hn | hn
      · rw [hn]
        have HP : Hid (pWord l = some (.name (wordL l), l.drop (spanN namB l))) := hide (by unfold pWord; rw [hn]; rfl)
        clear hn
        go_wp2_with fail
        refine (named_any (wordL l) X hwl).mono ?_
        rintro e w2 ⟨v, rfl, hv, g2, hr⟩
        have HR := hide hr
        clear hr
        go_wp2
        go_ret
        refine ⟨v, rfl, hv, (unhide GX).trans (grown_but g2 _), ?_⟩
        rw [unhide HP]
        exact ⟨(unhide HX).kept g2, fun lo _ hl => unhide HR lo (Nat.le_trans hl (unhide GX).size)⟩
      · rw [hn]
        have hnum := number_any (BA (wordL l)) 9223372036854775807 X hwl (unhide HGX)
        rcases hq : atMost 9223372036854775807 (numW (BA (wordL l))) with _ | n
        · rw [hq] at hnum
          have HP : Hid (pWord l = none) := hide (by unfold pWord; rw [hn, hq]; rfl)
          have HN := hide hnum
          clear hn hq hnum
          go_wp2_with fail
          refine (unhide HN).mono ?_
          rintro e w2 ⟨he, bb2⟩
          have he2 : e = .returned (.tuple #[.int .u64 0, .int .i64 10]) := he
          subst he2
          clear he
          have HX2 := hide ((unhide HX).below bb2)
          have G2 := hide (grown_but (grown_of_below bb2) (some rb))
          clear bb2
          go_wp2_with fail
          refine (fail_any rb b1 b2 _ _ w2 (unhide HX2)).mono ?_
          rintro e w3 ⟨rfl, h3, g3⟩
          have H3 := hide h3
          clear h3
          go_wp2
          go_ret
          refine ⟨_, rfl, .inl rfl, ((unhide GX).trans (unhide G2)).trans g3, ?_⟩
          rw [unhide HP]
          exact unhide H3
        · rw [hq] at hnum
          have HP : Hid (pWord l = some (.num n, l.drop (spanN namB l))) := hide (by unfold pWord; rw [hn, hq]; rfl)
          have HN := hide hnum
          obtain ⟨hnw, hn1⟩ := atMost_some hq
          have hn0 := numW_nonneg hnw
          have hwr : IntKind.i64.wrap n = n := by rw [IntKind.wrap_i64]; omega
          clear hn hq hnum hnw
          go_wp2_with fail
          refine (unhide HN).mono ?_
          rintro e w2 ⟨he, bb2⟩
          have he2 : e = .returned (.tuple #[.int .u64 n, .int .i64 0]) := he
          subst he2
          clear he
          have HX2 := hide ((unhide HX).below bb2)
          have G2 := hide (grown_of_below bb2)
          clear bb2
          go_wp2_with fail
          refine (constant_any n w2 ⟨hn0, hn1⟩).mono ?_
          rintro e w3 ⟨v, rfl, hv, g3, hr⟩
          have HR := hide hr
          clear hr
          go_wp2
          go_ret
          refine ⟨v, rfl, hv, ((unhide GX).trans (grown_but (unhide G2) _)).trans (grown_but g3 _), ?_⟩
          rw [unhide HP]
          exact ⟨(unhide HX2).kept g3, fun lo _ hl => unhide HR lo (Nat.le_trans hl (Nat.le_trans (unhide GX).size (unhide G2).size))⟩

end Go.Proofs.YtlbpeknncakfeaaGreatDoor

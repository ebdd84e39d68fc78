/-
  The contract of the library's internal ParseUint at the bases 8, 10 and 16, of 64 bits.
-/
import Derived.Test.YtlbpeknncakfeaaGreatDoorLeaf
import Derived.Laws.IdiomStrings
namespace Go.Proofs.YtlbpeknncakfeaaGreatDoor
open Go.RowKit

/-- A digit's number, as the library takes it. -/
def dgt (c : Int) : Int := if 48 ≤ c ∧ c ≤ 57 then c - 48 else if 97 ≤ lowB c ∧ lowB c ≤ 122 then lowB c - 97 + 10 else 99
def puF (B : Int) : List Int → Int → Option Int
  | [], u => some u
  | c :: cs, u => if dgt c < B ∧ u * B + dgt c < 18446744073709551616 then puF B cs (u * B + dgt c) else none
def bsL (t : ByteArray) : List Int := t.data.toList.map fun b => (b.toNat : Int)
theorem bsL_len (t : ByteArray) : (bsL t).length = t.size := by simp [bsL]
theorem bsL_get (t : ByteArray) (j : Nat) (h : j < t.size) : (bsL t)[j]'(by rw [bsL_len]; exact h) = (t[j].toNat : Int) := by
  simp [bsL]; rfl
/-- The number that a word is, at a base; none: it is none, or too great. -/
def puS (B : Int) (t : ByteArray) : Option Int := if t.size = 0 then none else puF B (bsL t) 0

theorem heap_new (w : World) (o : Obj) : (w.alloc o).heap[w.heap.size]? = some o := by
  show (w.heap.push o)[w.heap.size]? = some o
  simp
theorem conv_any (s : ByteArray) (w : World) : ∃ cap w', (convert 9 108 (.string s)).run Tryz.prog w = .ok (.slice (some ⟨w.heap.size, 0, none⟩) s.size cap) w' ∧
    Below w.heap.size w w' ∧ ∀ j (hj : j < s.size), w'.cell? ⟨w.heap.size, j, none⟩ = some (.int .u8 (s[j].toNat : Int)) := by
  refine ⟨_, _, run_bytes_of_string (P := Tryz.prog) w 9 108 5 s Tryz.underlying9 Tryz.underlying108 Tryz.underlying5, ?_, ?_⟩
  · exact ((Below.refl _ w).drew.alloc (Nat.le_refl _) _)
  · intro j hj
    have hj' : j < s.data.size := hj
    have hh := heap_new w.drew (.cells (bytesRow s (grownCap w s.size 0 5)) 5 ((bytesRow s (grownCap w s.size 0 5)).size, (bytesRow s (grownCap w s.size 0 5)).size + 1))
    have hh2 : (w.drew.alloc (.cells (bytesRow s (grownCap w s.size 0 5)) 5 ((bytesRow s (grownCap w s.size 0 5)).size, (bytesRow s (grownCap w s.size 0 5)).size + 1))).heap[w.heap.size]? = _ := hh
    unfold World.cell?
    simp only [hh2]
    exact bytesRow_at s _ j hj'

theorem puF_step {B u : Int} {l : List Int} {k : Nat} (h : k < l.length) (h1 : dgt l[k] < B) (h2 : u * B + dgt l[k] < 18446744073709551616) : puF B (l.drop k) u = puF B (l.drop (k + 1)) (u * B + dgt l[k]) := by
  rw [List.drop_eq_getElem_cons h, puF, if_pos ⟨h1, h2⟩]
theorem puF_stop {B u : Int} {l : List Int} {k : Nat} (h : k < l.length) (h1 : ¬ (dgt l[k] < B ∧ u * B + dgt l[k] < 18446744073709551616)) : puF B (l.drop k) u = none := by
  rw [List.drop_eq_getElem_cons h, puF, if_neg h1]

theorem empty_of {s : ByteArray} (h : s.size = 0) : s.toList.isEmpty = true := by
  rw [ByteArray.toList_eq]
  have : s.data.toList.length = 0 := by simpa using h
  rw [List.eq_nil_of_length_eq_zero this]; rfl
theorem nonempty_of {s : ByteArray} (h : 0 < s.size) : s.toList.isEmpty = false := by
  rw [ByteArray.toList_eq]
  cases hl : s.data.toList with
  | nil => have : s.data.toList.length = 0 := by rw [hl]; rfl
           have : s.size = 0 := by simpa using this
           omega
  | cons _ _ => rfl

/-- What ParseUint answers. -/
def PuEnd (B : Int) (t : ByteArray) (e : Ending) : Prop := match puS B t with
  | some u => e = .returned (.tuple #[.int .u64 u, .nilIface])
  | none => ∃ x c, e = .returned (.tuple #[.int .u64 x, .iface 111 (.int .i64 c)]) ∧ (c = 1 ∨ c = 2)
theorem PuEnd.none {B : Int} {t : ByteArray} {e : Ending} (h : puS B t = none) (he : ∃ x c, e = .returned (.tuple #[.int .u64 x, .iface 111 (.int .i64 c)]) ∧ (c = 1 ∨ c = 2)) : PuEnd B t e := by unfold PuEnd; rw [h]; exact he
theorem PuEnd.some {B u : Int} {t : ByteArray} {e : Ending} (h : puS B t = some u) (he : e = .returned (.tuple #[.int .u64 u, .nilIface])) : PuEnd B t e := by unfold PuEnd; rw [h]; exact he

set_option maxRecDepth 100000 in
set_option maxHeartbeats 8000000 in
theorem puint8_any (t : ByteArray) (w : World) (ht : t.size ≤ 100000) :
    Calls Tryz.prog 58 #[.string t, .int .i64 8, .int .i64 64] w fun e w' => PuEnd 8 t e ∧ Below w.heap.size w w' := by
  by_cases h0 : t.size = 0
  · have hem := empty_of h0
    go_enter Tryz.func58, Tryz.ntmps58
    go_wp2
    go_ret2
    exact ⟨PuEnd.none (by unfold puS; rw [if_pos h0]) ⟨_, _, rfl, .inr rfl⟩, Below.refl _ _⟩
  · have hem := nonempty_of (show 0 < t.size by omega)
    obtain ⟨cap, w1, hrun, hb1, hcell⟩ := conv_any t w
    have HB := hide hb1
    have HC := hide hcell
    have HPU : Hid (puS 8 t = puF 8 (bsL t) 0) := hide (by unfold puS; rw [if_neg h0])
    have hmx : IntKind.u64.wrap (IntKind.u64.wrap 18446744073709551616 - 1) = 18446744073709551615 := by rw [IntKind.wrap_u64, IntKind.wrap_u64]; decide
    obtain ⟨g, hg⟩ : ∃ g, g = w.heap.size := ⟨_, rfl⟩
    rw [← hg] at hrun HC
    clear hb1 hcell hg
    go_enter Tryz.func58, Tryz.ntmps58
    go_wp2
    go_loop [12, 13, 101] (fun us x i => ∃ (k : Nat) (u : Int), k ≤ t.size ∧ us = .bool false ∧ x = .int .u64 u ∧ i = .int .i64 (k : Int) ∧ 0 ≤ u ∧ u < 18446744073709551616 ∧ puF 8 ((bsL t).drop k) u = puF 8 (bsL t) 0) (fun _ _ i => t.size - (intOf i).toNat)
    case atStart => exact ⟨0, 0, Nat.zero_le _, rfl, rfl, rfl, by omega, by omega, rfl⟩
    case round =>
      obtain ⟨k, u, hk, rfl, rfl, rfl, hu0, hu1, hpf⟩ := hrel
      have HPF := hide hpf
      clear hpf
      by_cases hlt : k < t.size
      · have hc := unhide HC k hlt
        obtain ⟨c, hceq⟩ : ∃ c : Int, c = (t[k].toNat : Int) := ⟨_, rfl⟩
        rw [← hceq] at hc
        have HCK : Hid ((bsL t)[k]'(by rw [bsL_len]; exact hlt) = c) := hide (by rw [bsL_get t k hlt, hceq])
        have hc0 : 0 ≤ c := by omega
        have hc1 : c ≤ 255 := by have := t[k].toNat_lt; omega
        clear hceq
        obtain ⟨x, hx⟩ : ∃ x, x = lowB c := ⟨_, rfl⟩
        have HLOW : Hid (∀ w, Calls Tryz.prog 99 #[.int .u8 c] w fun e w' => e = .returned (.int .u8 x) ∧ w' = w) := hide (fun w => by rw [hx]; exact lower_any c w)
        have HX := hide hx
        clear hx
        by_cases h95 : c = 95
        · have hx127 : x = 127 := by rw [unhide HX, h95]; rfl
          have hdg : dgt c = 99 := by unfold dgt; rw [← unhide HX, hx127, h95]; rfl
          subst h95
          subst hx127
          go_wp2_with fail
          refine (unhide HLOW _).mono ?_
          rintro ee x1 ⟨rfl, hx1⟩
          have hx2 := hx1.symm
          subst hx2
          clear hx1
          go_wp2_with fail
          refine (unhide HLOW _).mono ?_
          rintro ee x1 ⟨rfl, hx1⟩
          have hx2 := hx1.symm
          subst hx2
          clear hx1
          go_wp2
          go_ret2
          exact ⟨PuEnd.none (by rw [unhide HPU, ← unhide HPF]; exact puF_stop (by rw [bsL_len]; exact hlt) (by rw [unhide HCK, hdg]; omega)) ⟨_, _, rfl, .inr rfl⟩, unhide HB⟩
        have b95 : (c == 95) = false := by simpa using h95
        by_cases h1 : 48 ≤ c
        · by_cases h2 : c ≤ 57
          · have hdg : dgt c = c - 48 := by unfold dgt; rw [if_pos ⟨h1, h2⟩]
            have hw : IntKind.u8.wrap (c - 48) = c - 48 := by rw [IntKind.wrap_u8]; omega
            by_cases h8 : (8 : Int) ≤ c - 48
            · go_wp2
              go_ret2
              exact ⟨PuEnd.none (by rw [unhide HPU, ← unhide HPF]; exact puF_stop (by rw [bsL_len]; exact hlt) (by rw [unhide HCK, hdg]; omega)) ⟨_, _, rfl, .inr rfl⟩, unhide HB⟩
            · by_cases hcu : (2305843009213693952 : Int) ≤ u
              · skip
                go_wp2
                go_ret2
                exact ⟨PuEnd.none (by rw [unhide HPU, ← unhide HPF]; exact puF_stop (by rw [bsL_len]; exact hlt) (by rw [unhide HCK, hdg]; omega)) ⟨_, _, rfl, .inl rfl⟩, unhide HB⟩
              · have hm : IntKind.u64.wrap (u * 8) = u * 8 := by rw [IntKind.wrap_u64]; omega
                by_cases hov : u * 8 + (c - 48) < 18446744073709551616
                · have hm2 : IntKind.u64.wrap (u * 8 + (c - 48)) = u * 8 + (c - 48) := by rw [IntKind.wrap_u64]; omega
                  have hlt2 : decide (u * 8 + (c - 48) < u * 8) = false := by rw [decide_eq_false_iff_not]; omega
                  have hlt3 : decide ((18446744073709551615 : Int) < u * 8 + (c - 48)) = false := by rw [decide_eq_false_iff_not]; omega
                  have HN : Hid (puF 8 ((bsL t).drop (k + 1)) (u * 8 + (c - 48)) = puF 8 (bsL t) 0) := hide (by have h := puF_step (B := 8) (u := u) (l := bsL t) (k := k) (by rw [bsL_len]; exact hlt) (by rw [unhide HCK, hdg]; omega) (by rw [unhide HCK, hdg]; omega); rw [unhide HCK, hdg, unhide HPF] at h; exact h.symm)
                  skip
                  go_wp2
                  go_round
                  case rel => exact ⟨k + 1, u * 8 + (c - 48), by omega, rfl, rfl, by go_num, by omega, by omega, unhide HN⟩
                  case measure => simp [intOf]; omega
                · omega
          · have hdg0 : dgt c = if 97 ≤ x ∧ x ≤ 122 then x - 97 + 10 else 99 := by unfold dgt; rw [if_neg (by omega), ← unhide HX]
            by_cases h3 : 97 ≤ x
            · by_cases h4 : x ≤ 122
              · have hdg : dgt c = x - 97 + 10 := by rw [hdg0, if_pos ⟨h3, h4⟩]
                have hw : IntKind.u8.wrap (x - 97) = x - 97 := by rw [IntKind.wrap_u8]; omega
                have hw2 : IntKind.u8.wrap (x - 97 + 10) = x - 97 + 10 := by rw [IntKind.wrap_u8]; omega
                have h8 : (8 : Int) ≤ x - 97 + 10 := by omega
                go_wp2_with fail
                refine (unhide HLOW _).mono ?_
                rintro ee x1 ⟨rfl, hx1⟩
                have hx2 := hx1.symm
                subst hx2
                clear hx1
                go_wp2_with fail
                refine (unhide HLOW _).mono ?_
                rintro ee x1 ⟨rfl, hx1⟩
                have hx2 := hx1.symm
                subst hx2
                clear hx1
                go_wp2_with fail
                refine (unhide HLOW _).mono ?_
                rintro ee x1 ⟨rfl, hx1⟩
                have hx2 := hx1.symm
                subst hx2
                clear hx1
                go_wp2
                go_ret2
                exact ⟨PuEnd.none (by rw [unhide HPU, ← unhide HPF]; exact puF_stop (by rw [bsL_len]; exact hlt) (by rw [unhide HCK, hdg]; omega)) ⟨_, _, rfl, .inr rfl⟩, unhide HB⟩
              · have hdg : dgt c = 99 := by rw [hdg0, if_neg (by omega)]
                go_wp2_with fail
                refine (unhide HLOW _).mono ?_
                rintro ee x1 ⟨rfl, hx1⟩
                have hx2 := hx1.symm
                subst hx2
                clear hx1
                go_wp2_with fail
                refine (unhide HLOW _).mono ?_
                rintro ee x1 ⟨rfl, hx1⟩
                have hx2 := hx1.symm
                subst hx2
                clear hx1
                go_wp2
                go_ret2
                exact ⟨PuEnd.none (by rw [unhide HPU, ← unhide HPF]; exact puF_stop (by rw [bsL_len]; exact hlt) (by rw [unhide HCK, hdg]; omega)) ⟨_, _, rfl, .inr rfl⟩, unhide HB⟩
            · have hdg : dgt c = 99 := by rw [hdg0, if_neg (by omega)]
              go_wp2_with fail
              refine (unhide HLOW _).mono ?_
              rintro ee x1 ⟨rfl, hx1⟩
              have hx2 := hx1.symm
              subst hx2
              clear hx1
              go_wp2
              go_ret2
              exact ⟨PuEnd.none (by rw [unhide HPU, ← unhide HPF]; exact puF_stop (by rw [bsL_len]; exact hlt) (by rw [unhide HCK, hdg]; omega)) ⟨_, _, rfl, .inr rfl⟩, unhide HB⟩
        · have hdg0 : dgt c = if 97 ≤ x ∧ x ≤ 122 then x - 97 + 10 else 99 := by unfold dgt; rw [if_neg (by omega), ← unhide HX]
          by_cases h3 : 97 ≤ x
          · by_cases h4 : x ≤ 122
            · have hdg : dgt c = x - 97 + 10 := by rw [hdg0, if_pos ⟨h3, h4⟩]
              have hw : IntKind.u8.wrap (x - 97) = x - 97 := by rw [IntKind.wrap_u8]; omega
              have hw2 : IntKind.u8.wrap (x - 97 + 10) = x - 97 + 10 := by rw [IntKind.wrap_u8]; omega
              have h8 : (8 : Int) ≤ x - 97 + 10 := by omega
              go_wp2_with fail
              refine (unhide HLOW _).mono ?_
              rintro ee x1 ⟨rfl, hx1⟩
              have hx2 := hx1.symm
              subst hx2
              clear hx1
              go_wp2_with fail
              refine (unhide HLOW _).mono ?_
              rintro ee x1 ⟨rfl, hx1⟩
              have hx2 := hx1.symm
              subst hx2
              clear hx1
              go_wp2_with fail
              refine (unhide HLOW _).mono ?_
              rintro ee x1 ⟨rfl, hx1⟩
              have hx2 := hx1.symm
              subst hx2
              clear hx1
              go_wp2
              go_ret2
              exact ⟨PuEnd.none (by rw [unhide HPU, ← unhide HPF]; exact puF_stop (by rw [bsL_len]; exact hlt) (by rw [unhide HCK, hdg]; omega)) ⟨_, _, rfl, .inr rfl⟩, unhide HB⟩
            · have hdg : dgt c = 99 := by rw [hdg0, if_neg (by omega)]
              go_wp2_with fail
              refine (unhide HLOW _).mono ?_
              rintro ee x1 ⟨rfl, hx1⟩
              have hx2 := hx1.symm
              subst hx2
              clear hx1
              go_wp2_with fail
              refine (unhide HLOW _).mono ?_
              rintro ee x1 ⟨rfl, hx1⟩
              have hx2 := hx1.symm
              subst hx2
              clear hx1
              go_wp2
              go_ret2
              exact ⟨PuEnd.none (by rw [unhide HPU, ← unhide HPF]; exact puF_stop (by rw [bsL_len]; exact hlt) (by rw [unhide HCK, hdg]; omega)) ⟨_, _, rfl, .inr rfl⟩, unhide HB⟩
          · have hdg : dgt c = 99 := by rw [hdg0, if_neg (by omega)]
            go_wp2_with fail
            refine (unhide HLOW _).mono ?_
            rintro ee x1 ⟨rfl, hx1⟩
            have hx2 := hx1.symm
            subst hx2
            clear hx1
            go_wp2
            go_ret2
            exact ⟨PuEnd.none (by rw [unhide HPU, ← unhide HPF]; exact puF_stop (by rw [bsL_len]; exact hlt) (by rw [unhide HCK, hdg]; omega)) ⟨_, _, rfl, .inr rfl⟩, unhide HB⟩
      · have hke : k = t.size := by omega
        have hfin : puS 8 t = some u := by
          rw [unhide HPU, ← unhide HPF, hke, List.drop_eq_nil_of_le (by rw [bsL_len]; exact Nat.le_refl _)]; rfl
        have HFIN := hide hfin
        clear hfin
        go_wp2
        go_ret2
        exact ⟨PuEnd.some (unhide HFIN) rfl, unhide HB⟩

set_option maxRecDepth 100000 in
set_option maxHeartbeats 8000000 in
theorem puint10_any (t : ByteArray) (w : World) (ht : t.size ≤ 100000) :
    Calls Tryz.prog 58 #[.string t, .int .i64 10, .int .i64 64] w fun e w' => PuEnd 10 t e ∧ Below w.heap.size w w' := by
  by_cases h0 : t.size = 0
  · have hem := empty_of h0
    go_enter Tryz.func58, Tryz.ntmps58
    go_wp2
    go_ret2
    exact ⟨PuEnd.none (by unfold puS; rw [if_pos h0]) ⟨_, _, rfl, .inr rfl⟩, Below.refl _ _⟩
  · have hem := nonempty_of (show 0 < t.size by omega)
    obtain ⟨cap, w1, hrun, hb1, hcell⟩ := conv_any t w
    have HB := hide hb1
    have HC := hide hcell
    have HPU : Hid (puS 10 t = puF 10 (bsL t) 0) := hide (by unfold puS; rw [if_neg h0])
    have hmx : IntKind.u64.wrap (IntKind.u64.wrap 18446744073709551616 - 1) = 18446744073709551615 := by rw [IntKind.wrap_u64, IntKind.wrap_u64]; decide
    obtain ⟨g, hg⟩ : ∃ g, g = w.heap.size := ⟨_, rfl⟩
    rw [← hg] at hrun HC
    clear hb1 hcell hg
    go_enter Tryz.func58, Tryz.ntmps58
    go_wp2
    go_loop [12, 13, 101] (fun us x i => ∃ (k : Nat) (u : Int), k ≤ t.size ∧ us = .bool false ∧ x = .int .u64 u ∧ i = .int .i64 (k : Int) ∧ 0 ≤ u ∧ u < 18446744073709551616 ∧ puF 10 ((bsL t).drop k) u = puF 10 (bsL t) 0) (fun _ _ i => t.size - (intOf i).toNat)
    case atStart => exact ⟨0, 0, Nat.zero_le _, rfl, rfl, rfl, by omega, by omega, rfl⟩
    case round =>
      obtain ⟨k, u, hk, rfl, rfl, rfl, hu0, hu1, hpf⟩ := hrel
      have HPF := hide hpf
      clear hpf
      by_cases hlt : k < t.size
      · have hc := unhide HC k hlt
        obtain ⟨c, hceq⟩ : ∃ c : Int, c = (t[k].toNat : Int) := ⟨_, rfl⟩
        rw [← hceq] at hc
        have HCK : Hid ((bsL t)[k]'(by rw [bsL_len]; exact hlt) = c) := hide (by rw [bsL_get t k hlt, hceq])
        have hc0 : 0 ≤ c := by omega
        have hc1 : c ≤ 255 := by have := t[k].toNat_lt; omega
        clear hceq
        obtain ⟨x, hx⟩ : ∃ x, x = lowB c := ⟨_, rfl⟩
        have HLOW : Hid (∀ w, Calls Tryz.prog 99 #[.int .u8 c] w fun e w' => e = .returned (.int .u8 x) ∧ w' = w) := hide (fun w => by rw [hx]; exact lower_any c w)
        have HX := hide hx
        clear hx
        by_cases h95 : c = 95
        · have hx127 : x = 127 := by rw [unhide HX, h95]; rfl
          have hdg : dgt c = 99 := by unfold dgt; rw [← unhide HX, hx127, h95]; rfl
          subst h95
          subst hx127
          go_wp2_with fail
          refine (unhide HLOW _).mono ?_
          rintro ee x1 ⟨rfl, hx1⟩
          have hx2 := hx1.symm
          subst hx2
          clear hx1
          go_wp2_with fail
          refine (unhide HLOW _).mono ?_
          rintro ee x1 ⟨rfl, hx1⟩
          have hx2 := hx1.symm
          subst hx2
          clear hx1
          go_wp2
          go_ret2
          exact ⟨PuEnd.none (by rw [unhide HPU, ← unhide HPF]; exact puF_stop (by rw [bsL_len]; exact hlt) (by rw [unhide HCK, hdg]; omega)) ⟨_, _, rfl, .inr rfl⟩, unhide HB⟩
        have b95 : (c == 95) = false := by simpa using h95
        by_cases h1 : 48 ≤ c
        · by_cases h2 : c ≤ 57
          · have hdg : dgt c = c - 48 := by unfold dgt; rw [if_pos ⟨h1, h2⟩]
            have hw : IntKind.u8.wrap (c - 48) = c - 48 := by rw [IntKind.wrap_u8]; omega
            have h8 : ¬ ((10 : Int) ≤ c - 48) := by omega
            by_cases hcu : (1844674407370955162 : Int) ≤ u
            · skip
              go_wp2
              go_ret2
              exact ⟨PuEnd.none (by rw [unhide HPU, ← unhide HPF]; exact puF_stop (by rw [bsL_len]; exact hlt) (by rw [unhide HCK, hdg]; omega)) ⟨_, _, rfl, .inl rfl⟩, unhide HB⟩
            · have hm : IntKind.u64.wrap (u * 10) = u * 10 := by rw [IntKind.wrap_u64]; omega
              by_cases hov : u * 10 + (c - 48) < 18446744073709551616
              · have hm2 : IntKind.u64.wrap (u * 10 + (c - 48)) = u * 10 + (c - 48) := by rw [IntKind.wrap_u64]; omega
                have hlt2 : decide (u * 10 + (c - 48) < u * 10) = false := by rw [decide_eq_false_iff_not]; omega
                have hlt3 : decide ((18446744073709551615 : Int) < u * 10 + (c - 48)) = false := by rw [decide_eq_false_iff_not]; omega
                have HN : Hid (puF 10 ((bsL t).drop (k + 1)) (u * 10 + (c - 48)) = puF 10 (bsL t) 0) := hide (by have h := puF_step (B := 10) (u := u) (l := bsL t) (k := k) (by rw [bsL_len]; exact hlt) (by rw [unhide HCK, hdg]; omega) (by rw [unhide HCK, hdg]; omega); rw [unhide HCK, hdg, unhide HPF] at h; exact h.symm)
                skip
                go_wp2
                go_round
                case rel => exact ⟨k + 1, u * 10 + (c - 48), by omega, rfl, rfl, by go_num, by omega, by omega, unhide HN⟩
                case measure => simp [intOf]; omega
              · have hm2 : IntKind.u64.wrap (u * 10 + (c - 48)) = u * 10 + (c - 48) - 18446744073709551616 := by rw [IntKind.wrap_u64]; omega
                have hlt2 : u * 10 + (c - 48) - 18446744073709551616 < u * 10 := by omega
                skip
                go_wp2
                go_ret2
                exact ⟨PuEnd.none (by rw [unhide HPU, ← unhide HPF]; exact puF_stop (by rw [bsL_len]; exact hlt) (by rw [unhide HCK, hdg]; omega)) ⟨_, _, rfl, .inl rfl⟩, unhide HB⟩
          · have hdg0 : dgt c = if 97 ≤ x ∧ x ≤ 122 then x - 97 + 10 else 99 := by unfold dgt; rw [if_neg (by omega), ← unhide HX]
            by_cases h3 : 97 ≤ x
            · by_cases h4 : x ≤ 122
              · have hdg : dgt c = x - 97 + 10 := by rw [hdg0, if_pos ⟨h3, h4⟩]
                have hw : IntKind.u8.wrap (x - 97) = x - 97 := by rw [IntKind.wrap_u8]; omega
                have hw2 : IntKind.u8.wrap (x - 97 + 10) = x - 97 + 10 := by rw [IntKind.wrap_u8]; omega
                have h8 : (10 : Int) ≤ x - 97 + 10 := by omega
                go_wp2_with fail
                refine (unhide HLOW _).mono ?_
                rintro ee x1 ⟨rfl, hx1⟩
                have hx2 := hx1.symm
                subst hx2
                clear hx1
                go_wp2_with fail
                refine (unhide HLOW _).mono ?_
                rintro ee x1 ⟨rfl, hx1⟩
                have hx2 := hx1.symm
                subst hx2
                clear hx1
                go_wp2_with fail
                refine (unhide HLOW _).mono ?_
                rintro ee x1 ⟨rfl, hx1⟩
                have hx2 := hx1.symm
                subst hx2
                clear hx1
                go_wp2
                go_ret2
                exact ⟨PuEnd.none (by rw [unhide HPU, ← unhide HPF]; exact puF_stop (by rw [bsL_len]; exact hlt) (by rw [unhide HCK, hdg]; omega)) ⟨_, _, rfl, .inr rfl⟩, unhide HB⟩
              · have hdg : dgt c = 99 := by rw [hdg0, if_neg (by omega)]
                go_wp2_with fail
                refine (unhide HLOW _).mono ?_
                rintro ee x1 ⟨rfl, hx1⟩
                have hx2 := hx1.symm
                subst hx2
                clear hx1
                go_wp2_with fail
                refine (unhide HLOW _).mono ?_
                rintro ee x1 ⟨rfl, hx1⟩
                have hx2 := hx1.symm
                subst hx2
                clear hx1
                go_wp2
                go_ret2
                exact ⟨PuEnd.none (by rw [unhide HPU, ← unhide HPF]; exact puF_stop (by rw [bsL_len]; exact hlt) (by rw [unhide HCK, hdg]; omega)) ⟨_, _, rfl, .inr rfl⟩, unhide HB⟩
            · have hdg : dgt c = 99 := by rw [hdg0, if_neg (by omega)]
              go_wp2_with fail
              refine (unhide HLOW _).mono ?_
              rintro ee x1 ⟨rfl, hx1⟩
              have hx2 := hx1.symm
              subst hx2
              clear hx1
              go_wp2
              go_ret2
              exact ⟨PuEnd.none (by rw [unhide HPU, ← unhide HPF]; exact puF_stop (by rw [bsL_len]; exact hlt) (by rw [unhide HCK, hdg]; omega)) ⟨_, _, rfl, .inr rfl⟩, unhide HB⟩
        · have hdg0 : dgt c = if 97 ≤ x ∧ x ≤ 122 then x - 97 + 10 else 99 := by unfold dgt; rw [if_neg (by omega), ← unhide HX]
          by_cases h3 : 97 ≤ x
          · by_cases h4 : x ≤ 122
            · have hdg : dgt c = x - 97 + 10 := by rw [hdg0, if_pos ⟨h3, h4⟩]
              have hw : IntKind.u8.wrap (x - 97) = x - 97 := by rw [IntKind.wrap_u8]; omega
              have hw2 : IntKind.u8.wrap (x - 97 + 10) = x - 97 + 10 := by rw [IntKind.wrap_u8]; omega
              have h8 : (10 : Int) ≤ x - 97 + 10 := by omega
              go_wp2_with fail
              refine (unhide HLOW _).mono ?_
              rintro ee x1 ⟨rfl, hx1⟩
              have hx2 := hx1.symm
              subst hx2
              clear hx1
              go_wp2_with fail
              refine (unhide HLOW _).mono ?_
              rintro ee x1 ⟨rfl, hx1⟩
              have hx2 := hx1.symm
              subst hx2
              clear hx1
              go_wp2_with fail
              refine (unhide HLOW _).mono ?_
              rintro ee x1 ⟨rfl, hx1⟩
              have hx2 := hx1.symm
              subst hx2
              clear hx1
              go_wp2
              go_ret2
              exact ⟨PuEnd.none (by rw [unhide HPU, ← unhide HPF]; exact puF_stop (by rw [bsL_len]; exact hlt) (by rw [unhide HCK, hdg]; omega)) ⟨_, _, rfl, .inr rfl⟩, unhide HB⟩
            · have hdg : dgt c = 99 := by rw [hdg0, if_neg (by omega)]
              go_wp2_with fail
              refine (unhide HLOW _).mono ?_
              rintro ee x1 ⟨rfl, hx1⟩
              have hx2 := hx1.symm
              subst hx2
              clear hx1
              go_wp2_with fail
              refine (unhide HLOW _).mono ?_
              rintro ee x1 ⟨rfl, hx1⟩
              have hx2 := hx1.symm
              subst hx2
              clear hx1
              go_wp2
              go_ret2
              exact ⟨PuEnd.none (by rw [unhide HPU, ← unhide HPF]; exact puF_stop (by rw [bsL_len]; exact hlt) (by rw [unhide HCK, hdg]; omega)) ⟨_, _, rfl, .inr rfl⟩, unhide HB⟩
          · have hdg : dgt c = 99 := by rw [hdg0, if_neg (by omega)]
            go_wp2_with fail
            refine (unhide HLOW _).mono ?_
            rintro ee x1 ⟨rfl, hx1⟩
            have hx2 := hx1.symm
            subst hx2
            clear hx1
            go_wp2
            go_ret2
            exact ⟨PuEnd.none (by rw [unhide HPU, ← unhide HPF]; exact puF_stop (by rw [bsL_len]; exact hlt) (by rw [unhide HCK, hdg]; omega)) ⟨_, _, rfl, .inr rfl⟩, unhide HB⟩
      · have hke : k = t.size := by omega
        have hfin : puS 10 t = some u := by
          rw [unhide HPU, ← unhide HPF, hke, List.drop_eq_nil_of_le (by rw [bsL_len]; exact Nat.le_refl _)]; rfl
        have HFIN := hide hfin
        clear hfin
        go_wp2
        go_ret2
        exact ⟨PuEnd.some (unhide HFIN) rfl, unhide HB⟩

set_option maxRecDepth 100000 in
set_option maxHeartbeats 8000000 in
theorem puint16_any (t : ByteArray) (w : World) (ht : t.size ≤ 100000) :
    Calls Tryz.prog 58 #[.string t, .int .i64 16, .int .i64 64] w fun e w' => PuEnd 16 t e ∧ Below w.heap.size w w' := by
  by_cases h0 : t.size = 0
  · have hem := empty_of h0
    go_enter Tryz.func58, Tryz.ntmps58
    go_wp2
    go_ret2
    exact ⟨PuEnd.none (by unfold puS; rw [if_pos h0]) ⟨_, _, rfl, .inr rfl⟩, Below.refl _ _⟩
  · have hem := nonempty_of (show 0 < t.size by omega)
    obtain ⟨cap, w1, hrun, hb1, hcell⟩ := conv_any t w
    have HB := hide hb1
    have HC := hide hcell
    have HPU : Hid (puS 16 t = puF 16 (bsL t) 0) := hide (by unfold puS; rw [if_neg h0])
    have hmx : IntKind.u64.wrap (IntKind.u64.wrap 18446744073709551616 - 1) = 18446744073709551615 := by rw [IntKind.wrap_u64, IntKind.wrap_u64]; decide
    obtain ⟨g, hg⟩ : ∃ g, g = w.heap.size := ⟨_, rfl⟩
    rw [← hg] at hrun HC
    clear hb1 hcell hg
    go_enter Tryz.func58, Tryz.ntmps58
    go_wp2
    go_loop [12, 13, 101] (fun us x i => ∃ (k : Nat) (u : Int), k ≤ t.size ∧ us = .bool false ∧ x = .int .u64 u ∧ i = .int .i64 (k : Int) ∧ 0 ≤ u ∧ u < 18446744073709551616 ∧ puF 16 ((bsL t).drop k) u = puF 16 (bsL t) 0) (fun _ _ i => t.size - (intOf i).toNat)
    case atStart => exact ⟨0, 0, Nat.zero_le _, rfl, rfl, rfl, by omega, by omega, rfl⟩
    case round =>
      obtain ⟨k, u, hk, rfl, rfl, rfl, hu0, hu1, hpf⟩ := hrel
      have HPF := hide hpf
      clear hpf
      by_cases hlt : k < t.size
      · have hc := unhide HC k hlt
        obtain ⟨c, hceq⟩ : ∃ c : Int, c = (t[k].toNat : Int) := ⟨_, rfl⟩
        rw [← hceq] at hc
        have HCK : Hid ((bsL t)[k]'(by rw [bsL_len]; exact hlt) = c) := hide (by rw [bsL_get t k hlt, hceq])
        have hc0 : 0 ≤ c := by omega
        have hc1 : c ≤ 255 := by have := t[k].toNat_lt; omega
        clear hceq
        obtain ⟨x, hx⟩ : ∃ x, x = lowB c := ⟨_, rfl⟩
        have HLOW : Hid (∀ w, Calls Tryz.prog 99 #[.int .u8 c] w fun e w' => e = .returned (.int .u8 x) ∧ w' = w) := hide (fun w => by rw [hx]; exact lower_any c w)
        have HX := hide hx
        clear hx
        by_cases h95 : c = 95
        · have hx127 : x = 127 := by rw [unhide HX, h95]; rfl
          have hdg : dgt c = 99 := by unfold dgt; rw [← unhide HX, hx127, h95]; rfl
          subst h95
          subst hx127
          go_wp2_with fail
          refine (unhide HLOW _).mono ?_
          rintro ee x1 ⟨rfl, hx1⟩
          have hx2 := hx1.symm
          subst hx2
          clear hx1
          go_wp2_with fail
          refine (unhide HLOW _).mono ?_
          rintro ee x1 ⟨rfl, hx1⟩
          have hx2 := hx1.symm
          subst hx2
          clear hx1
          go_wp2
          go_ret2
          exact ⟨PuEnd.none (by rw [unhide HPU, ← unhide HPF]; exact puF_stop (by rw [bsL_len]; exact hlt) (by rw [unhide HCK, hdg]; omega)) ⟨_, _, rfl, .inr rfl⟩, unhide HB⟩
        have b95 : (c == 95) = false := by simpa using h95
        by_cases h1 : 48 ≤ c
        · by_cases h2 : c ≤ 57
          · have hdg : dgt c = c - 48 := by unfold dgt; rw [if_pos ⟨h1, h2⟩]
            have hw : IntKind.u8.wrap (c - 48) = c - 48 := by rw [IntKind.wrap_u8]; omega
            have h8 : ¬ ((16 : Int) ≤ c - 48) := by omega
            by_cases hcu : (1152921504606846976 : Int) ≤ u
            · skip
              go_wp2
              go_ret2
              exact ⟨PuEnd.none (by rw [unhide HPU, ← unhide HPF]; exact puF_stop (by rw [bsL_len]; exact hlt) (by rw [unhide HCK, hdg]; omega)) ⟨_, _, rfl, .inl rfl⟩, unhide HB⟩
            · have hm : IntKind.u64.wrap (u * 16) = u * 16 := by rw [IntKind.wrap_u64]; omega
              by_cases hov : u * 16 + (c - 48) < 18446744073709551616
              · have hm2 : IntKind.u64.wrap (u * 16 + (c - 48)) = u * 16 + (c - 48) := by rw [IntKind.wrap_u64]; omega
                have hlt2 : decide (u * 16 + (c - 48) < u * 16) = false := by rw [decide_eq_false_iff_not]; omega
                have hlt3 : decide ((18446744073709551615 : Int) < u * 16 + (c - 48)) = false := by rw [decide_eq_false_iff_not]; omega
                have HN : Hid (puF 16 ((bsL t).drop (k + 1)) (u * 16 + (c - 48)) = puF 16 (bsL t) 0) := hide (by have h := puF_step (B := 16) (u := u) (l := bsL t) (k := k) (by rw [bsL_len]; exact hlt) (by rw [unhide HCK, hdg]; omega) (by rw [unhide HCK, hdg]; omega); rw [unhide HCK, hdg, unhide HPF] at h; exact h.symm)
                skip
                go_wp2
                go_round
                case rel => exact ⟨k + 1, u * 16 + (c - 48), by omega, rfl, rfl, by go_num, by omega, by omega, unhide HN⟩
                case measure => simp [intOf]; omega
              · omega
          · have hdg0 : dgt c = if 97 ≤ x ∧ x ≤ 122 then x - 97 + 10 else 99 := by unfold dgt; rw [if_neg (by omega), ← unhide HX]
            by_cases h3 : 97 ≤ x
            · by_cases h4 : x ≤ 122
              · have hdg : dgt c = x - 97 + 10 := by rw [hdg0, if_pos ⟨h3, h4⟩]
                have hw : IntKind.u8.wrap (x - 97) = x - 97 := by rw [IntKind.wrap_u8]; omega
                have hw2 : IntKind.u8.wrap (x - 97 + 10) = x - 97 + 10 := by rw [IntKind.wrap_u8]; omega
                by_cases h8 : (16 : Int) ≤ x - 97 + 10
                · go_wp2_with fail
                  refine (unhide HLOW _).mono ?_
                  rintro ee x1 ⟨rfl, hx1⟩
                  have hx2 := hx1.symm
                  subst hx2
                  clear hx1
                  go_wp2_with fail
                  refine (unhide HLOW _).mono ?_
                  rintro ee x1 ⟨rfl, hx1⟩
                  have hx2 := hx1.symm
                  subst hx2
                  clear hx1
                  go_wp2_with fail
                  refine (unhide HLOW _).mono ?_
                  rintro ee x1 ⟨rfl, hx1⟩
                  have hx2 := hx1.symm
                  subst hx2
                  clear hx1
                  go_wp2
                  go_ret2
                  exact ⟨PuEnd.none (by rw [unhide HPU, ← unhide HPF]; exact puF_stop (by rw [bsL_len]; exact hlt) (by rw [unhide HCK, hdg]; omega)) ⟨_, _, rfl, .inr rfl⟩, unhide HB⟩
                · by_cases hcu : (1152921504606846976 : Int) ≤ u
                  · go_wp2_with fail
                    refine (unhide HLOW _).mono ?_
                    rintro ee x1 ⟨rfl, hx1⟩
                    have hx2 := hx1.symm
                    subst hx2
                    clear hx1
                    go_wp2_with fail
                    refine (unhide HLOW _).mono ?_
                    rintro ee x1 ⟨rfl, hx1⟩
                    have hx2 := hx1.symm
                    subst hx2
                    clear hx1
                    go_wp2_with fail
                    refine (unhide HLOW _).mono ?_
                    rintro ee x1 ⟨rfl, hx1⟩
                    have hx2 := hx1.symm
                    subst hx2
                    clear hx1
                    go_wp2
                    go_ret2
                    exact ⟨PuEnd.none (by rw [unhide HPU, ← unhide HPF]; exact puF_stop (by rw [bsL_len]; exact hlt) (by rw [unhide HCK, hdg]; omega)) ⟨_, _, rfl, .inl rfl⟩, unhide HB⟩
                  · have hm : IntKind.u64.wrap (u * 16) = u * 16 := by rw [IntKind.wrap_u64]; omega
                    by_cases hov : u * 16 + (x - 97 + 10) < 18446744073709551616
                    · have hm2 : IntKind.u64.wrap (u * 16 + (x - 97 + 10)) = u * 16 + (x - 97 + 10) := by rw [IntKind.wrap_u64]; omega
                      have hlt2 : decide (u * 16 + (x - 97 + 10) < u * 16) = false := by rw [decide_eq_false_iff_not]; omega
                      have hlt3 : decide ((18446744073709551615 : Int) < u * 16 + (x - 97 + 10)) = false := by rw [decide_eq_false_iff_not]; omega
                      have HN : Hid (puF 16 ((bsL t).drop (k + 1)) (u * 16 + (x - 97 + 10)) = puF 16 (bsL t) 0) := hide (by have h := puF_step (B := 16) (u := u) (l := bsL t) (k := k) (by rw [bsL_len]; exact hlt) (by rw [unhide HCK, hdg]; omega) (by rw [unhide HCK, hdg]; omega); rw [unhide HCK, hdg, unhide HPF] at h; exact h.symm)
                      go_wp2_with fail
                      refine (unhide HLOW _).mono ?_
                      rintro ee x1 ⟨rfl, hx1⟩
                      have hx2 := hx1.symm
                      subst hx2
                      clear hx1
                      go_wp2_with fail
                      refine (unhide HLOW _).mono ?_
                      rintro ee x1 ⟨rfl, hx1⟩
                      have hx2 := hx1.symm
                      subst hx2
                      clear hx1
                      go_wp2_with fail
                      refine (unhide HLOW _).mono ?_
                      rintro ee x1 ⟨rfl, hx1⟩
                      have hx2 := hx1.symm
                      subst hx2
                      clear hx1
                      go_wp2
                      go_round
                      case rel => exact ⟨k + 1, u * 16 + (x - 97 + 10), by omega, rfl, rfl, by go_num, by omega, by omega, unhide HN⟩
                      case measure => simp [intOf]; omega
                    · omega
              · have hdg : dgt c = 99 := by rw [hdg0, if_neg (by omega)]
                go_wp2_with fail
                refine (unhide HLOW _).mono ?_
                rintro ee x1 ⟨rfl, hx1⟩
                have hx2 := hx1.symm
                subst hx2
                clear hx1
                go_wp2_with fail
                refine (unhide HLOW _).mono ?_
                rintro ee x1 ⟨rfl, hx1⟩
                have hx2 := hx1.symm
                subst hx2
                clear hx1
                go_wp2
                go_ret2
                exact ⟨PuEnd.none (by rw [unhide HPU, ← unhide HPF]; exact puF_stop (by rw [bsL_len]; exact hlt) (by rw [unhide HCK, hdg]; omega)) ⟨_, _, rfl, .inr rfl⟩, unhide HB⟩
            · have hdg : dgt c = 99 := by rw [hdg0, if_neg (by omega)]
              go_wp2_with fail
              refine (unhide HLOW _).mono ?_
              rintro ee x1 ⟨rfl, hx1⟩
              have hx2 := hx1.symm
              subst hx2
              clear hx1
              go_wp2
              go_ret2
              exact ⟨PuEnd.none (by rw [unhide HPU, ← unhide HPF]; exact puF_stop (by rw [bsL_len]; exact hlt) (by rw [unhide HCK, hdg]; omega)) ⟨_, _, rfl, .inr rfl⟩, unhide HB⟩
        · have hdg0 : dgt c = if 97 ≤ x ∧ x ≤ 122 then x - 97 + 10 else 99 := by unfold dgt; rw [if_neg (by omega), ← unhide HX]
          by_cases h3 : 97 ≤ x
          · by_cases h4 : x ≤ 122
            · have hdg : dgt c = x - 97 + 10 := by rw [hdg0, if_pos ⟨h3, h4⟩]
              have hw : IntKind.u8.wrap (x - 97) = x - 97 := by rw [IntKind.wrap_u8]; omega
              have hw2 : IntKind.u8.wrap (x - 97 + 10) = x - 97 + 10 := by rw [IntKind.wrap_u8]; omega
              by_cases h8 : (16 : Int) ≤ x - 97 + 10
              · go_wp2_with fail
                refine (unhide HLOW _).mono ?_
                rintro ee x1 ⟨rfl, hx1⟩
                have hx2 := hx1.symm
                subst hx2
                clear hx1
                go_wp2_with fail
                refine (unhide HLOW _).mono ?_
                rintro ee x1 ⟨rfl, hx1⟩
                have hx2 := hx1.symm
                subst hx2
                clear hx1
                go_wp2_with fail
                refine (unhide HLOW _).mono ?_
                rintro ee x1 ⟨rfl, hx1⟩
                have hx2 := hx1.symm
                subst hx2
                clear hx1
                go_wp2
                go_ret2
                exact ⟨PuEnd.none (by rw [unhide HPU, ← unhide HPF]; exact puF_stop (by rw [bsL_len]; exact hlt) (by rw [unhide HCK, hdg]; omega)) ⟨_, _, rfl, .inr rfl⟩, unhide HB⟩
              · by_cases hcu : (1152921504606846976 : Int) ≤ u
                · go_wp2_with fail
                  refine (unhide HLOW _).mono ?_
                  rintro ee x1 ⟨rfl, hx1⟩
                  have hx2 := hx1.symm
                  subst hx2
                  clear hx1
                  go_wp2_with fail
                  refine (unhide HLOW _).mono ?_
                  rintro ee x1 ⟨rfl, hx1⟩
                  have hx2 := hx1.symm
                  subst hx2
                  clear hx1
                  go_wp2_with fail
                  refine (unhide HLOW _).mono ?_
                  rintro ee x1 ⟨rfl, hx1⟩
                  have hx2 := hx1.symm
                  subst hx2
                  clear hx1
                  go_wp2
                  go_ret2
                  exact ⟨PuEnd.none (by rw [unhide HPU, ← unhide HPF]; exact puF_stop (by rw [bsL_len]; exact hlt) (by rw [unhide HCK, hdg]; omega)) ⟨_, _, rfl, .inl rfl⟩, unhide HB⟩
                · have hm : IntKind.u64.wrap (u * 16) = u * 16 := by rw [IntKind.wrap_u64]; omega
                  by_cases hov : u * 16 + (x - 97 + 10) < 18446744073709551616
                  · have hm2 : IntKind.u64.wrap (u * 16 + (x - 97 + 10)) = u * 16 + (x - 97 + 10) := by rw [IntKind.wrap_u64]; omega
                    have hlt2 : decide (u * 16 + (x - 97 + 10) < u * 16) = false := by rw [decide_eq_false_iff_not]; omega
                    have hlt3 : decide ((18446744073709551615 : Int) < u * 16 + (x - 97 + 10)) = false := by rw [decide_eq_false_iff_not]; omega
                    have HN : Hid (puF 16 ((bsL t).drop (k + 1)) (u * 16 + (x - 97 + 10)) = puF 16 (bsL t) 0) := hide (by have h := puF_step (B := 16) (u := u) (l := bsL t) (k := k) (by rw [bsL_len]; exact hlt) (by rw [unhide HCK, hdg]; omega) (by rw [unhide HCK, hdg]; omega); rw [unhide HCK, hdg, unhide HPF] at h; exact h.symm)
                    go_wp2_with fail
                    refine (unhide HLOW _).mono ?_
                    rintro ee x1 ⟨rfl, hx1⟩
                    have hx2 := hx1.symm
                    subst hx2
                    clear hx1
                    go_wp2_with fail
                    refine (unhide HLOW _).mono ?_
                    rintro ee x1 ⟨rfl, hx1⟩
                    have hx2 := hx1.symm
                    subst hx2
                    clear hx1
                    go_wp2_with fail
                    refine (unhide HLOW _).mono ?_
                    rintro ee x1 ⟨rfl, hx1⟩
                    have hx2 := hx1.symm
                    subst hx2
                    clear hx1
                    go_wp2
                    go_round
                    case rel => exact ⟨k + 1, u * 16 + (x - 97 + 10), by omega, rfl, rfl, by go_num, by omega, by omega, unhide HN⟩
                    case measure => simp [intOf]; omega
                  · omega
            · have hdg : dgt c = 99 := by rw [hdg0, if_neg (by omega)]
              go_wp2_with fail
              refine (unhide HLOW _).mono ?_
              rintro ee x1 ⟨rfl, hx1⟩
              have hx2 := hx1.symm
              subst hx2
              clear hx1
              go_wp2_with fail
              refine (unhide HLOW _).mono ?_
              rintro ee x1 ⟨rfl, hx1⟩
              have hx2 := hx1.symm
              subst hx2
              clear hx1
              go_wp2
              go_ret2
              exact ⟨PuEnd.none (by rw [unhide HPU, ← unhide HPF]; exact puF_stop (by rw [bsL_len]; exact hlt) (by rw [unhide HCK, hdg]; omega)) ⟨_, _, rfl, .inr rfl⟩, unhide HB⟩
          · have hdg : dgt c = 99 := by rw [hdg0, if_neg (by omega)]
            go_wp2_with fail
            refine (unhide HLOW _).mono ?_
            rintro ee x1 ⟨rfl, hx1⟩
            have hx2 := hx1.symm
            subst hx2
            clear hx1
            go_wp2
            go_ret2
            exact ⟨PuEnd.none (by rw [unhide HPU, ← unhide HPF]; exact puF_stop (by rw [bsL_len]; exact hlt) (by rw [unhide HCK, hdg]; omega)) ⟨_, _, rfl, .inr rfl⟩, unhide HB⟩
      · have hke : k = t.size := by omega
        have hfin : puS 16 t = some u := by
          rw [unhide HPU, ← unhide HPF, hke, List.drop_eq_nil_of_le (by rw [bsL_len]; exact Nat.le_refl _)]; rfl
        have HFIN := hide hfin
        clear hfin
        go_wp2
        go_ret2
        exact ⟨PuEnd.some (unhide HFIN) rfl, unhide HB⟩

end Go.Proofs.YtlbpeknncakfeaaGreatDoor

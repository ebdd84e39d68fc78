/-
  The chapter's examples; few, within.
-/
import Derived.Test.YtpljphbaibncjaaSFields
namespace Go.Proofs.Ytpljphbaibncjaa
open Go.RowKit

/-- One piece, two pieces, in a new block. -/
theorem prow_one (w : World) (p : Pc) : PRow (w.alloc (.cells #[.string (BA p.text), .bool p.q, .bool p.s, .bool p.b] 42)) (.slice (some ⟨w.heap.size, 0, none⟩) 1 1) [p] := by
  have hb := Blk.new w 42 #[.string (BA p.text), .bool p.q, .bool p.s, .bool p.b]
  refine ⟨_, 1, rfl, fun i x hi => ?_⟩
  match i, hi with
  | 0, hi =>
    simp at hi
    subst hi
    exact ⟨w.heap.size, 0, rfl, hb.lt, hb.cell 0 rfl, hb.cell 1 rfl, hb.cell 2 rfl, hb.cell 3 rfl⟩
theorem prow_two (w : World) (p q : Pc) : PRow (w.alloc (.cells #[.string (BA p.text), .bool p.q, .bool p.s, .bool p.b, .string (BA q.text), .bool q.q, .bool q.s, .bool q.b] 42)) (.slice (some ⟨w.heap.size, 0, none⟩) 2 2) [p, q] := by
  have hb := Blk.new w 42 #[.string (BA p.text), .bool p.q, .bool p.s, .bool p.b, .string (BA q.text), .bool q.q, .bool q.s, .bool q.b]
  refine ⟨_, 2, rfl, fun i x hi => ?_⟩
  match i, hi with
  | 0, hi =>
    simp at hi
    subst hi
    exact ⟨w.heap.size, 0, rfl, hb.lt, hb.cell 0 rfl, hb.cell 1 rfl, hb.cell 2 rfl, hb.cell 3 rfl⟩
  | 1, hi =>
    simp at hi
    subst hi
    exact ⟨w.heap.size, 0, rfl, hb.lt, hb.cell 4 rfl, hb.cell 5 rfl, hb.cell 6 rfl, hb.cell 7 rfl⟩
/-- Fields of one new piece. -/
theorem fields_one (w : World) (p : Pc) (ifs : List UInt8) (L : List Fd) (h : fieldsL ifs [p] = L) (hi : ifs.length ≤ 100000) (hp : p.text.length ≤ 100000) :
    Calls Try.prog 11 #[.slice (some ⟨w.heap.size, 0, none⟩) 1 1, .string (BA ifs)] (w.alloc (.cells #[.string (BA p.text), .bool p.q, .bool p.s, .bool p.b] 42)) fun e w' => ∃ u, e = .returned u ∧ Below w.heap.size w w' ∧ FRow w' u L := by
  refine (fields_any _ [p] ifs _ 100000 (prow_one w p) hi (fun x hx => ?_) (by simp)).mono fun e w' ⟨u, h1, h2, h3⟩ => ⟨u, h1, ?_, h ▸ h3⟩
  · simp at hx
    subst hx
    exact hp
  · exact ((Below.refl _ w).alloc (Nat.le_refl _) _).trans (h2.mono (by simp))
theorem fields_two (w : World) (p q : Pc) (ifs : List UInt8) (L : List Fd) (h : fieldsL ifs [p, q] = L) (hi : ifs.length ≤ 100000) (hp : p.text.length ≤ 100000) (hq : q.text.length ≤ 100000) :
    Calls Try.prog 11 #[.slice (some ⟨w.heap.size, 0, none⟩) 2 2, .string (BA ifs)] (w.alloc (.cells #[.string (BA p.text), .bool p.q, .bool p.s, .bool p.b, .string (BA q.text), .bool q.q, .bool q.s, .bool q.b] 42)) fun e w' => ∃ u, e = .returned u ∧ Below w.heap.size w w' ∧ FRow w' u L := by
  refine (fields_any _ [p, q] ifs _ 100000 (prow_two w p q) hi (fun x hx => ?_) (by simp)).mono fun e w' ⟨u, h1, h2, h3⟩ => ⟨u, h1, ?_, h ▸ h3⟩
  · simp at hx
    rcases hx with rfl | rfl
    · exact hp
    · exact hq
  · exact ((Below.refl _ w).alloc (Nat.le_refl _) _).trans (h2.mono (by simp))

set_option maxRecDepth 100000 in
set_option maxHeartbeats 4000000 in
theorem awake_any (w : World) : Calls Try.prog 9 #[] w fun e w' => e = .returned (.bool true) ∧ Below w.heap.size w w' := by
  have H1 := hide (fun W => fields_one W ⟨[97, 32, 44, 32, 98], false, true, false⟩ [32, 44] [[(97, false)], [(98, false)]] (by decide +kernel) (by decide) (by decide))
  have H2 := hide (fun W => fields_one W ⟨[97, 44, 44, 98, 44], false, true, false⟩ [32, 44] [[(97, false)], [], [(98, false)]] (by decide +kernel) (by decide) (by decide))
  have H3 := hide (fun W => fields_one W ⟨[], true, false, false⟩ [32, 44] [[]] (by decide +kernel) (by decide) (by decide))
  have H4 := hide (fun W => fields_two W ⟨[97, 32], false, true, false⟩ ⟨[98], true, false, false⟩ [32] [[(97, false)], [(98, true)]] (by decide +kernel) (by decide) (by decide) (by decide))
  go_enter Try.func9, Try.ntmps9
  go_wp2_with fail
  refine (unhide H1 _).mono ?_
  rintro e w1 ⟨u1, rfl, b1, f1⟩
  have B1 := hide b1
  have F1 := hide f1
  clear b1 f1
  go_wp2_with fail
  refine (unhide H2 _).mono ?_
  rintro e w2 ⟨u2, rfl, b2, f2⟩
  have B2 := hide b2
  have F2 := hide f2
  clear b2 f2
  go_wp2_with fail
  refine (unhide H3 _).mono ?_
  rintro e w3 ⟨u3, rfl, b3, f3⟩
  have B3 := hide b3
  have F3 := hide f3
  clear b3 f3
  go_wp2_with fail
  refine (unhide H4 _).mono ?_
  rintro e w4 ⟨u4, rfl, b4, f4⟩
  have B4 := hide b4
  have BB := hide ((((unhide B1).trans ((unhide B2).mono (unhide B1).size)).trans ((unhide B3).mono (Nat.le_trans (unhide B1).size (unhide B2).size))).trans (b4.mono (Nat.le_trans (unhide B1).size (Nat.le_trans (unhide B2).size (unhide B3).size))))
  have f1 := (((unhide F1).below (unhide B2)).below (unhide B3)).below b4
  have f2 := ((unhide F2).below (unhide B3)).below b4
  have f3 := (unhide F3).below b4
  obtain ⟨a1, p1, rfl, k1⟩ := f1
  obtain ⟨a2, p2, rfl, k2⟩ := f2
  obtain ⟨a3, p3, rfl, k3⟩ := f3
  obtain ⟨a4, p4, rfl, k4⟩ := f4
  obtain ⟨g1, q1, rfl, _, c1, _⟩ := k1 1 _ rfl
  obtain ⟨g2, q2, rfl, _, c2, _⟩ := k2 1 _ rfl
  obtain ⟨g4, q4, rfl, _, _, c4, h4⟩ := k4 1 _ rfl
  obtain ⟨a5, p5, rfl, k5⟩ := h4
  obtain ⟨g5, rfl, _, c5⟩ := k5 0 _ rfl
  simp only [Nat.reduceMul, Nat.reduceAdd] at c1 c2 c4 c5
  rw [show BA (ftx [(98, false)]) = ⟨#[98]⟩ from rfl] at c1
  rw [show BA (ftx []) = ⟨#[]⟩ from rfl] at c2
  clear k1 k2 k3 k4 k5 b4 F1 F2 F3 B1 B2 B3 B4 H1 H2 H3 H4
  go_wp2
  go_ret
  exact ⟨rfl, unhide BB⟩

/-- Not too much: up to 30 pieces, of up to 100 bytes. -/
def fewB (l : List Pc) : Bool := decide (l.length ≤ 30) && l.all fun p => decide (p.text.length ≤ 100)
theorem few_take {l : List Pc} {k : Nat} {p : Pc} (h : l[k]? = some p) (hp : p.text.length ≤ 100) (ht : ((l.take k).all fun p => decide (p.text.length ≤ 100)) = true) : ((l.take (k + 1)).all fun p => decide (p.text.length ≤ 100)) = true := by
  rw [List.take_add_one, h, List.all_append, ht]
  simp [hp]

set_option maxRecDepth 20000 in
set_option maxHeartbeats 1000000 in
theorem few_any (v : Value) (l : List Pc) (w : World) (h : PRow w v l) : Calls Try.prog 8 #[v] w fun e w' => e = .returned (.bool (fewB l)) ∧ w' = w := by
  obtain ⟨ad, cap, rfl, hp⟩ := h
  obtain ⟨N, hN⟩ : ∃ N, N = l.length := ⟨_, rfl⟩
  rw [← hN]
  have HN := hide hN
  have HP := hide hp
  clear hN hp
  by_cases h30 : N ≤ 30
  · go_enter Try.func8, Try.ntmps8
    go_wp2
    go_loop [3] (fun i => ∃ k : Nat, i = .int .i64 k ∧ k ≤ N ∧ Hid (((l.take k).all fun p => decide (p.text.length ≤ 100)) = true)) (fun i => N - (intOf i).toNat)
    case atStart => exact ⟨0, rfl, Nat.zero_le _, hide rfl⟩
    case round =>
      obtain ⟨k, rfl, hk, HT⟩ := hrel
      by_cases hlt : k < N
      · obtain ⟨x, hx⟩ : ∃ x, l[k]? = some x := ⟨_, List.getElem?_eq_getElem (by have := unhide HN; omega)⟩
        obtain ⟨g, o, rfl, _, c0, _⟩ := unhide HP k x hx
        have hk1 : (k : Int) < (N : Int) := by omega
        have HX := hide hx
        clear hx
        by_cases h1 : x.text.length ≤ 100
        · go_wp2
          go_round
          case rel => exact ⟨k + 1, by go_num, by omega, hide (few_take (unhide HX) h1 (unhide HT))⟩
          case measure => simp [intOf]; omega
        · go_wp2
          go_ret
          refine ⟨ret_bool (Eq.symm ?_), rfl⟩
          unfold fewB
          rw [Bool.and_eq_false_iff]
          right
          rw [List.all_eq_false]
          exact ⟨x, List.mem_of_getElem? (unhide HX), by simpa using h1⟩
      · go_wp2
        go_ret
        refine ⟨ret_bool (Eq.symm ?_), rfl⟩
        have hz := unhide HT
        rw [List.take_of_length_le (by have := unhide HN; omega)] at hz
        unfold fewB
        rw [hz, ← unhide HN]
        simpa using h30
  · go_enter Try.func8, Try.ntmps8
    go_wp2
    go_ret
    refine ⟨ret_bool (Eq.symm ?_), rfl⟩
    unfold fewB
    rw [← unhide HN, show decide (N ≤ 30) = false by simpa using h30]
    rfl

def hasB (l : List UInt8) (c : UInt8) : Bool := l.contains c
theorem cont_take {s : ByteArray} {c : UInt8} {k : Nat} (hk : k < s.size) (hne : s[k] ≠ c) (h : (s.data.toList.take k).contains c = false) : (s.data.toList.take (k + 1)).contains c = false := by
  rw [List.take_add_one, List.getElem?_eq_getElem (by rw [data_len]; exact hk), data_get s k hk, Option.toList]
  simp only [List.contains_eq_mem, List.mem_append, List.mem_singleton, decide_eq_false_iff_not] at h ⊢
  rintro (e | e)
  · exact h e
  · exact hne e.symm
theorem cont_hit {s : ByteArray} {c : UInt8} {k : Nat} (hk : k < s.size) (he : s[k] = c) : s.data.toList.contains c = true := by
  rw [List.contains_eq_mem, decide_eq_true_eq, ← he, ← data_get s k hk]
  exact List.getElem_mem _

set_option maxRecDepth 20000 in
set_option maxHeartbeats 1000000 in
theorem within_all (s : ByteArray) (c : UInt8) (w : World) (hs : s.size ≤ 1000000) : Calls Try.prog 18 #[.string s, .int .u8 (c.toNat : Int)] w fun e w' => e = .returned (.bool (hasB s.data.toList c)) ∧ w' = w := by
  go_enter Try.func18, Try.ntmps18
  go_wp2
  go_loop [5] (fun i => ∃ k : Nat, i = .int .i64 k ∧ k ≤ s.size ∧ Hid ((s.data.toList.take k).contains c = false)) (fun i => s.size - (intOf i).toNat)
  case atStart => exact ⟨0, rfl, Nat.zero_le _, hide rfl⟩
  case round =>
    obtain ⟨k, rfl, hk, HT⟩ := hrel
    by_cases hlt : k < s.size
    · cases hb : ((s[k].toNat : Int) == (c.toNat : Int)) with
      | true =>
        have HE : Hid (s[k] = c) := hide (UInt8.toNat_inj.1 (by have := eq_of_beq hb; omega))
        go_wp2
        go_ret
        exact ⟨ret_bool (cont_hit hlt (unhide HE)).symm, rfl⟩
      | false =>
        have HE : Hid (s[k] ≠ c) := hide (fun e => by rw [e] at hb; simp at hb)
        go_wp2
        go_round
        case rel => exact ⟨k + 1, by go_num, by omega, hide (cont_take hlt (unhide HE) (unhide HT))⟩
        case measure => simp [intOf]; omega
    · go_wp2
      go_ret
      have hz := unhide HT
      rw [List.take_of_length_le (by rw [data_len]; omega)] at hz
      exact ⟨ret_bool hz.symm, rfl⟩
theorem within_any (l : List UInt8) (c : UInt8) (w : World) (hs : l.length ≤ 1000000) : Calls Try.prog 18 #[.string (BA l), .int .u8 (c.toNat : Int)] w fun e w' => e = .returned (.bool (hasB l c)) ∧ w' = w := within_all (BA l) c w hs

end Go.Proofs.Ytpljphbaibncjaa

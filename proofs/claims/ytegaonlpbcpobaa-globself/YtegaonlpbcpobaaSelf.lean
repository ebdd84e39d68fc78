/-
  The walk of GlobSelf.
-/
import Derived.Test.YtegaonlpbcpobaaAwake
import Derived.Test.YtegaonlpbcpobaaPlain
namespace Go.Proofs.Ytegaonlpbcpobaa
open Go.RowKit

def byteTok (c : Int) : Tok := ⟨1, c, false, []⟩
theorem one_byte (c : Int) (u : List Int) : One (byteTok c) u ↔ u = [c] := by
  unfold One
  constructor
  · rintro (h | ⟨_, d, rfl, h⟩)
    · exact absurd (show (1 : Int) = 3 from h) (by decide)
    · have : decide (d = c) = true := h
      rw [of_decide_eq_true this]
  · rintro rfl
    exact .inr ⟨fun h => absurd (show (1 : Int) = 3 from h) (by decide), c, rfl, by simp [fitsB, byteTok]⟩
theorem fits_bytes : ∀ (u v : List Int), Fits (u.map byteTok) v ↔ v = u
  | [], v => Iff.rfl
  | c :: u, v => by
    constructor
    · rintro ⟨x, y, rfl, h1, h2⟩
      rw [(one_byte c x).1 h1, (fits_bytes u y).1 h2]
      rfl
    · rintro rfl
      exact ⟨[c], u, rfl, (one_byte c _).2 rfl, (fits_bytes u u).2 rfl⟩
theorem plainF_quoted (s : ByteArray) (k : Nat) (c : Int) (h : k < s.size) : plainF s (List.replicate s.size true) k c = false := by
  unfold plainF
  rw [List.getElem?_replicate, if_pos h]
  simp
theorem cutT_quoted (s : ByteArray) (k : Nat) (h : k < s.size) : cutT s (List.replicate s.size true) k = (byteTok (sb s k), k + 1) := by
  unfold cutT
  simp [plainF_quoted s k _ h, byteTok]
theorem parseN_quoted (s : ByteArray) : ∀ F k, s.size - k ≤ F → parseN s (List.replicate s.size true) F k = ((bs s).drop k).map byteTok
  | 0, k, h => by
    rw [List.drop_eq_nil_of_le (by rw [bs_len]; omega)]
    rfl
  | F + 1, k, h => by
    by_cases hk : k < s.size
    · rw [parseN_step hk, cutT_quoted s k hk, parseN_quoted s F (k + 1) (by omega), List.drop_eq_getElem_cons (i := k) (by rw [bs_len]; exact hk), bs_get s k hk]
      rfl
    · rw [parseN, if_neg hk, List.drop_eq_nil_of_le (by rw [bs_len]; omega)]
      rfl
theorem self_parse (s : ByteArray) : parseL s (List.replicate s.size true) = (bs s).map byteTok := parseN_quoted s s.size 0 (by omega)
theorem bs_inj {s t : ByteArray} (h : bs s = bs t) : s = t := by
  have hl : s.size = t.size := by have := congrArg List.length h; rwa [bs_len, bs_len] at this
  apply ByteArray.ext
  apply Array.ext hl
  intro j h1 h2
  have e : (bs s)[j]'(by rw [bs_len]; exact h1) = (bs t)[j]'(by rw [bs_len]; exact h2) := by simp only [h]
  rw [bs_get s j h1, bs_get t j h2, sb_eq h1, sb_eq h2] at e
  have e' : s[j].toNat = t[j].toNat := by omega
  exact UInt8.toNat_inj.1 e'
theorem self_special (s : ByteArray) : specialB ((bs s).map byteTok) = false := by
  unfold specialB
  rw [List.any_eq_false]
  intro t ht
  obtain ⟨c, _, rfl⟩ := List.mem_map.1 ht
  simp [byteTok]
theorem self_match (s t : ByteArray) : matchB t ((bs s).map byteTok) = decide (s = t) := by
  rw [Bool.eq_iff_iff, matchB_iff, fits_bytes, decide_eq_true_iff]
  constructor
  · intro h; exact (bs_inj h).symm
  · rintro rfl; rfl

theorem toList_data (s : ByteArray) : s.toList = s.data.toList := by
  have go : ∀ (m i : Nat) (r : List UInt8), s.size - i = m → ByteArray.toList.loop s i r = r.reverse ++ s.data.toList.drop i := by
    intro m
    induction m with
    | zero =>
      intro i r h
      unfold ByteArray.toList.loop
      rw [if_neg (by omega), List.drop_eq_nil_of_le (by simp; omega)]
      simp
    | succ m ih =>
      intro i r h
      have hi : i < s.size := by omega
      unfold ByteArray.toList.loop
      rw [if_pos hi, ih (i + 1) _ (by omega), List.drop_eq_getElem_cons (i := i) (by simpa using hi)]
      have e : s.get! i = s.data.toList[i]'(by simpa using hi) := by
        show s.data[i]! = _
        rw [getElem!_pos s.data i hi]
        simp
      rw [e]
      simp
  have := go s.size 0 [] rfl
  simpa [ByteArray.toList] using this
theorem toList_ne {s t : ByteArray} (h : ¬ s = t) : ¬ s.toList = t.toList := fun e => by
  rw [toList_data, toList_data] at e
  exact h (ByteArray.ext (Array.toList_inj.1 e))

theorem mk_n (w : World) (c : Nat) (h : c ≤ 100000) : (Instr.makeSlice 22 (.int .i64 (c : Int)) (.int .i64 (c : Int))).run Try.prog w = .ok (.slice (some ⟨w.heap.size, 0, none⟩) c c) (w.alloc (.cells (made c) 4)) := by
  obtain ⟨i0, hi, hz0, hz1, hz2⟩ := info_parts info4z
  have := run_make (P := Try.prog) w 22 4 i0 (.bool false) Try.underlying22 hi hz0 .i64 .i64 (c : Int) (c : Int) (by omega) (Int.le_refl _) (by rw [hz2]; omega) (by omega)
  rw [this, hz1]
  rw [Int.toNat_natCast, Nat.mul_one]
  rfl

set_option maxHeartbeats 2000000 in
theorem self_walk (s t : ByteArray) (w : World) (hs : s.size ≤ maxLen) (ht : t.size ≤ maxLen) :
    Calls Try.prog 6 #[.string s, .string t] w fun e w' => e = .returned (.bool true) ∧ Below w.heap.size w w' := by
  unfold maxLen at hs ht
  by_cases h1 : (200 : Int) < (s.size : Int)
  · go_enter Try.func6, Try.ntmps6
    go_wp2_with fail
    refine (awake_any _).mono ?_
    rintro e w5 ⟨rfl, b5⟩
    go_wp2_with fail
    go_ret
    exact ⟨rfl, b5⟩
  by_cases h2 : (200 : Int) < (t.size : Int)
  · go_enter Try.func6, Try.ntmps6
    go_wp2_with fail
    refine (awake_any _).mono ?_
    rintro e w5 ⟨rfl, b5⟩
    go_wp2_with fail
    go_ret
    exact ⟨rfl, b5⟩
  have hmk := fun w => mk_n w s.size (by omega)
  go_enter Try.func6, Try.ntmps6
  go_wp2_with fail
  clear hmk
  obtain ⟨W1, hW1⟩ : ∃ X, X = w.alloc (.cells (made s.size) 4) := ⟨_, rfl⟩
  rw [← hW1]
  have hB1 : Below w.heap.size w W1 := by rw [hW1]; exact (Below.refl _ w).alloc (Nat.le_refl _) _
  have hh : W1.heap[w.heap.size]? = some (.cells (made s.size) 4) := by rw [hW1]; exact heap_new w _
  have hsz : w.heap.size < W1.heap.size := by rw [hW1]; simp
  have HN := hide (made_bools hh)
  have HF := hide (free_new hh)
  have HB := hide hB1
  obtain ⟨g, hg⟩ : ∃ x, x = w.heap.size := ⟨_, rfl⟩
  rw [← hg] at HN HF
  rw [← hg]
  have hg1 : w.heap.size ≤ g := by omega
  have hg2 : g < W1.heap.size := by omega
  clear hB1 hh hW1 hg hsz
  go_loopw [6] (fun i wr => ∃ (k : Nat), k ≤ s.size ∧ i = .int .i64 (k : Int) ∧ BoolsAt wr g 0 k (fun _ => true) ∧ (∀ j, k ≤ j → j < s.size → ∃ x, wr.cell? ⟨g, 0 + j, none⟩ = some (.bool x)) ∧ FreeAt wr g ∧ Below w.heap.size w wr ∧ g < wr.heap.size) (fun i _ => s.size - (intOf i).toNat)
  case atStart => exact ⟨0, Nat.zero_le _, rfl, fun j hj => absurd hj (by omega), fun j _ hj => ⟨_, (unhide HN) j hj⟩, unhide HF, unhide HB, hg2⟩
  case round =>
    obtain ⟨k, hk, rfl, r1, r2, r3, r4, r5⟩ := hrel
    have R1 := hide r1
    have R2 := hide r2
    have R3 := hide r3
    have R4 := hide r4
    by_cases hlt : k < s.size
    · obtain ⟨x, hx⟩ := r2 k (Nat.le_refl _) hlt
      have hz := r3 k
      have hx0 := hx
      rw [Nat.zero_add] at hx0
      clear r1 r2 r3 r4
      go_wp2
      go_roundw
      case rel =>
        have e1 := put_row (y := true) (unhide R1) hx rfl
        have e2 := put_rest (u := .bool true) (unhide R2)
        rw [Nat.zero_add] at e1 e2
        exact ⟨k + 1, by omega, by go_num, e1, e2, free_put (unhide R3), (unhide R4).setCell (p := ⟨g, k, none⟩) hg1 _, by simpa using r5⟩
      case measure => simp [intOf]; omega
    · have hke : k = s.size := by omega
      subst hke
      have hQ : QRow (g + 1) wr (.slice (some ⟨g, 0, none⟩) (List.replicate s.size true).length s.size) (List.replicate s.size true) :=
        ⟨_, _, rfl, by simp; omega, .inr ⟨g, 0, rfl, by omega, fun j hj => by
          have hj' : j < s.size := by simpa using hj
          have := r1 j hj'
          rw [this]; simp⟩⟩
      have HPC := hide (parse_any (g + 1) _ s (List.replicate s.size true) wr (by omega) hQ (by omega))
      rw [List.length_replicate, self_parse] at HPC
      clear r1 r2 r3 hQ
      have hbw := r4.size
      clear r4
      go_wp2_with fail
      refine (unhide HPC).mono ?_
      rintro e w2 ⟨v, rfl, t2, b2⟩
      have T := hide (show TR w2 v ((bs s).map byteTok) from t2)
      obtain ⟨a2, c2, rfl, _⟩ := TokRow.shape t2
      have HB2 := hide ((unhide R4).trans (b2.mono hbw))
      rw [List.length_map, bs_len] at T ⊢
      clear t2 b2 HPC
      go_wp2_with fail
      refine (sp _ false _ _ (unhide T) (self_special s)).mono ?_
      rintro e w3 ⟨rfl, b3⟩
      have T := hide ((unhide T).next b3)
      have HB2 := hide ((unhide HB2).trans (b3.mono (unhide HB2).size))
      clear b3
      go_wp2_with fail
      refine (mt _ _ true _ _ (by omega) (unhide T) (by rw [self_match]; simp)).mono ?_
      rintro e w4 ⟨rfl, b4⟩
      have T := hide ((unhide T).next b4)
      have HB2 := hide ((unhide HB2).trans (b4.mono (unhide HB2).size))
      clear b4
      go_wp2_with fail
      by_cases hst : s = t
      · subst hst
        refine (mt _ _ true _ _ (by omega) (unhide T) (by rw [self_match]; simp)).mono ?_
        rintro e w5 ⟨rfl, b5⟩
        have HB2 := hide ((unhide HB2).trans (b5.mono (unhide HB2).size))
        clear b5
        go_wp2_with fail
        refine (awake_any _).mono ?_
        rintro e w6 ⟨rfl, b6⟩
        go_wp2_with fail
        go_ret
        exact ⟨rfl, (unhide HB2).trans (b6.mono (unhide HB2).size)⟩
      · refine (mt _ _ false _ _ (by omega) (unhide T) (by rw [self_match]; simpa using hst)).mono ?_
        rintro e w5 ⟨rfl, b5⟩
        have HB2 := hide ((unhide HB2).trans (b5.mono (unhide HB2).size))
        have hsb := toList_ne hst
        have hsc : (s.toList == t.toList) = false := by rw [beq_eq_false_iff_ne]; exact hsb
        clear b5
        go_wp2_with fail
        refine (awake_any _).mono ?_
        rintro e w6 ⟨rfl, b6⟩
        go_wp2_with fail
        go_ret
        exact ⟨rfl, (unhide HB2).trans (b6.mono (unhide HB2).size)⟩

end Go.Proofs.Ytegaonlpbcpobaa

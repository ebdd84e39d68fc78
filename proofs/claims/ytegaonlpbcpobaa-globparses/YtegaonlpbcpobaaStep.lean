/-
  The contract of the program's 'step': which beginnings the tokens fit with one token more.
-/
import Derived.Test.YtegaonlpbcpobaaMem
namespace Go.Proofs.Ytegaonlpbcpobaa
open Go.RowKit

/-- Byte j of a text. -/
def sb (s : ByteArray) (j : Nat) : Int := ((s.data[j]?.getD 0).toNat : Int)
theorem sb_eq {s : ByteArray} {j : Nat} (h : j < s.size) : sb s j = (s[j].toNat : Int) := by
  unfold sb
  have h' : j < s.data.size := h
  rw [Array.getElem?_eq_getElem h']
  rfl

def anyTo (f : Nat → Bool) : Nat → Bool
  | 0 => false
  | j + 1 => anyTo f j || f j
def stepF (t : Tok) (s : ByteArray) (f : Nat → Bool) (j : Nat) : Bool :=
  if t.kind = 3 then anyTo f (j + 1) else
  match j with
  | 0 => false
  | i + 1 => f i && fitsB t (sb s i)


/-- What is left behind a store at place k. -/
theorem put_row {wr : World} {mb mo k : Nat} {g : Nat → Bool} {x y : Bool} (hB : BoolsAt wr mb mo k g) (hx : wr.cell? ⟨mb, mo + k, none⟩ = some (.bool x)) (hy : y = g k) : BoolsAt (wr.setCell ⟨mb, mo + k, none⟩ (.bool y)) mb mo (k + 1) g := by
  intro j hj
  by_cases e : j = k
  · subst e
    rw [World.cell?_setCell_same _ _ _ hx, hy]
  · rw [World.cell?_setCell_other _ _ _ _ (by simp <;> omega)]
    exact hB j (by omega)
theorem put_rest {wr : World} {mb mo k n : Nat} {u : Value} (hR : ∀ j, k ≤ j → j < n → ∃ x, wr.cell? ⟨mb, mo + j, none⟩ = some (.bool x)) : ∀ j, k + 1 ≤ j → j < n → ∃ x, (wr.setCell ⟨mb, mo + k, none⟩ u).cell? ⟨mb, mo + j, none⟩ = some (.bool x) := by
  intro j h1 h2
  rw [World.cell?_setCell_other _ _ _ _ (by simp <;> omega)]
  exact hR j (by omega) h2
theorem free_put {wr : World} {mb : Nat} {p : Addr} {u : Value} (h : FreeAt wr mb) : FreeAt (wr.setCell p u) mb := fun j => by rw [World.frozen?_setCell]; exact h j
theorem FreeAt.of_block {W W' : World} {b : Nat} (h : FreeAt W b) (hb : W'.heap[b]? = W.heap[b]?) : FreeAt W' b := fun j => (World.frozen?_of_block (w := W) (a := ⟨b, j, none⟩) hb).trans (h j)
theorem BoolsAt.of_block {W W' : World} {b o n : Nat} {f : Nat → Bool} (h : BoolsAt W b o n f) (hb : W'.heap[b]? = W.heap[b]?) : BoolsAt W' b o n f := fun j hj => (World.cell?_of_block (w := W) (a := ⟨b, o + j, none⟩) hb).trans (h j hj)

set_option maxHeartbeats 1000000 in
theorem step_many (n b o : Nat) (v : Value) (t : Tok) (s : ByteArray) (nb no nc mb mo mc : Nat) (f : Nat → Bool) (w : World) (ht : TokAt n w b o v t) (hs : s.size ≤ 281474976710656)
    (hf : BoolsAt w nb no (s.size + 1) f) (hm : ∀ j, j < s.size + 1 → ∃ x, w.cell? ⟨mb, mo + j, none⟩ = some (.bool x)) (hfr : FreeAt w mb) (hne : mb ≠ nb) (hk : t.kind = 3) :
    Calls Try.prog 37 #[.pointer (some ⟨b, o, none⟩), .string s, .slice (some ⟨nb, no, none⟩) (s.size + 1) nc, .slice (some ⟨mb, mo, none⟩) (s.size + 1) mc] w fun e w' =>
      (∃ u, e = .returned u) ∧ BoolsAt w' mb mo (s.size + 1) (stepF t s f) ∧ Turns mb 1 w w' ∧ FreeAt w' mb := by
  have HF := hide hf
  have HM := hide hm
  have HFR := hide hfr
  have hnb : nb < w.heap.size := cell_lt (hf 0 (by omega))
  obtain ⟨⟨k0, _, _, _⟩, _⟩ := ht
  rw [hk] at k0
  clear hf hm hfr
  go_enter Try.func37, Try.ntmps37
  go_wp2
  go_loopw [8, 18] (fun x i wr => ∃ (k : Nat), k ≤ s.size + 1 ∧ i = .int .i64 k ∧ x = .bool (anyTo f k) ∧ Turns mb 1 w wr ∧ FreeAt wr mb ∧ BoolsAt wr mb mo k (stepF t s f) ∧ ∀ j, k ≤ j → j < s.size + 1 → ∃ x, wr.cell? ⟨mb, mo + j, none⟩ = some (.bool x)) (fun _ i _ => s.size + 1 - (intOf i).toNat)
  case atStart => exact ⟨0, Nat.zero_le _, rfl, rfl, Turns.refl _ _ _, unhide HFR, fun j hj => absurd hj (by omega), fun j _ hj => (unhide HM) j hj⟩
  case round =>
    obtain ⟨k, hk', rfl, rfl, hT, hFr, hB, hR⟩ := hrel
    have HT := hide hT
    have HB := hide hB
    have HR := hide hR
    have HFr := hide hFr
    by_cases hlt : k < s.size + 1
    · obtain ⟨x, hx⟩ := hR k (Nat.le_refl _) hlt
      have hz := hFr (mo + k)
      have c0 := (hT.cell (p := ⟨nb, no + k, none⟩) hnb (by simp; omega)).trans ((unhide HF) k hlt)
      clear hT hB hR hFr
      rcases Bool.eq_false_or_eq_true (anyTo f k) with ha | ha
      · rw [ha]
        go_wp2
        go_roundw
        case rel => exact ⟨k + 1, by omega, by go_num, by simp [anyTo, ha], (unhide HT).setCell (by simp) (by simp) _, free_put (unhide HFr), put_row (unhide HB) hx (by unfold stepF; rw [if_pos hk]; simp [anyTo, ha]), put_rest (unhide HR)⟩
        case measure => simp [intOf]; omega
      · rw [ha]
        go_wp2
        go_roundw
        case rel => exact ⟨k + 1, by omega, by go_num, by simp [anyTo, ha], (unhide HT).setCell (by simp) (by simp) _, free_put (unhide HFr), put_row (unhide HB) hx (by unfold stepF; rw [if_pos hk]; simp [anyTo, ha]), put_rest (unhide HR)⟩
        case measure => simp [intOf]; omega
    · clear hT hB hR hFr
      go_wp2
      refine bodyPost_ret (results_none rfl _ _ _) rfl ?_
      have hke : k = s.size + 1 := by omega
      subst hke
      exact ⟨⟨_, rfl⟩, unhide HB, unhide HT, unhide HFr⟩

set_option maxHeartbeats 1000000 in
theorem step_one (n b o : Nat) (v : Value) (t : Tok) (s : ByteArray) (nb no nc mb mo mc : Nat) (f : Nat → Bool) (w : World) (ht : TokAt n w b o v t) (hs : s.size ≤ 281474976710656)
    (hf : BoolsAt w nb no (s.size + 1) f) (hm : ∀ j, j < s.size + 1 → ∃ x, w.cell? ⟨mb, mo + j, none⟩ = some (.bool x)) (hfr : FreeAt w mb) (hne : mb ≠ nb) (hnm : n ≤ mb) (hbm : b ≠ mb) (hk : t.kind ≠ 3) :
    Calls Try.prog 37 #[.pointer (some ⟨b, o, none⟩), .string s, .slice (some ⟨nb, no, none⟩) (s.size + 1) nc, .slice (some ⟨mb, mo, none⟩) (s.size + 1) mc] w fun e w' =>
      (∃ u, e = .returned u) ∧ BoolsAt w' mb mo (s.size + 1) (stepF t s f) ∧ Turns mb 1 w w' ∧ FreeAt w' mb := by
  have HF := hide hf
  have HM := hide hm
  have HFR := hide hfr
  have HTK := hide ht
  have hnb : nb < w.heap.size := cell_lt (hf 0 (by omega))
  have hbb : b < w.heap.size := ht.toTokCells.lt
  have hmb : mb < w.heap.size := by obtain ⟨x, hx⟩ := hm 0 (by omega); exact cell_lt hx
  obtain ⟨⟨k0, _, _, _⟩, _⟩ := ht
  obtain ⟨x0, hx0⟩ := hm 0 (by omega)
  have hz0 := hfr (mo + 0)
  rw [Nat.add_zero] at hx0 hz0
  have hkb : (t.kind == 3) = false := by rw [beq_eq_false_iff_ne]; exact hk
  clear hf hm hfr
  go_enter Try.func37, Try.ntmps37
  go_wp2
  go_loopw [37] (fun i wr => ∃ (k : Nat), k ≤ s.size ∧ i = .int .i64 k ∧ Turns mb 1 w wr ∧ FreeAt wr mb ∧ BoolsAt wr mb mo (k + 1) (stepF t s f) ∧ ∀ j, k + 1 ≤ j → j < s.size + 1 → ∃ x, wr.cell? ⟨mb, mo + j, none⟩ = some (.bool x)) (fun i _ => s.size - (intOf i).toNat)
  case atStart =>
    refine ⟨0, Nat.zero_le _, rfl, (Turns.refl _ _ _).setCell (by simp) (by simp) _, free_put (unhide HFR), ?_, ?_⟩
    · have h0 : BoolsAt w mb mo 0 (stepF t s f) := fun j hj => absurd hj (by omega)
      exact put_row h0 hx0 (by unfold stepF; rw [if_neg hk])
    · exact put_rest (fun j _ hj => (unhide HM) j hj)
  case round =>
    obtain ⟨k, hk', rfl, hT, hFr, hB, hR⟩ := hrel
    have HT := hide hT
    have HB := hide hB
    have HR := hide hR
    have HFr := hide hFr
    by_cases hlt : k < s.size
    · obtain ⟨x, hx⟩ := hR (k + 1) (Nat.le_refl _) (by omega)
      have hz := hFr (mo + (k + 1))
      have hsz := hT.size
      have c0 := (hT.cell (p := ⟨nb, no + k, none⟩) hnb (by simp; omega)).trans ((unhide HF) k (by omega))
      have HTW : Hid (TokAt n wr b o v t) := hide ⟨(unhide HTK).toTokCells.of_block (hT.block _ hbb (by omega)), (unhide HTK).row.turns hT hnm (by omega)⟩
      clear hT hB hR hFr
      rcases Bool.eq_false_or_eq_true (f k) with ha | ha
      · rw [ha] at c0
        go_wp2_with fail
        refine (fits_any n b o v t _ _ (unhide HTW) (by omega)).mono ?_
        rintro e w1 ⟨rfl, b1⟩
        have hx1 := (b1.cell (p := ⟨mb, mo + (k + 1), none⟩) (by simp; omega)).trans hx
        have hz1 := (b1.frozen (p := ⟨mb, mo + (k + 1), none⟩) (by simp; omega)).trans hz
        have HB1 : Hid (BoolsAt w1 mb mo (k + 1) (stepF t s f)) := hide ((unhide HB).of_block (b1.block _ (by omega)))
        have HF1 : Hid (FreeAt w1 mb) := hide ((unhide HFr).of_block (b1.block _ (by omega)))
        have HR1 : Hid (∀ j, k + 1 ≤ j → j < s.size + 1 → ∃ x, w1.cell? ⟨mb, mo + j, none⟩ = some (.bool x)) := hide (fun j h1 h2 => by
          obtain ⟨x, hx⟩ := (unhide HR) j h1 h2
          exact ⟨x, (b1.cell (p := ⟨mb, mo + j, none⟩) (by simp; omega)).trans hx⟩)
        have HT1 := hide ((unhide HT).trans (Turns.of_below b1))
        clear b1 HB HFr HR HT hx hz
        go_wp2
        go_roundw
        case rel => exact ⟨k + 1, by omega, by go_num, (unhide HT1).setCell (by simp) (by simp) _, free_put (unhide HF1), put_row (unhide HB1) hx1 (by unfold stepF; rw [if_neg hk]; simp [ha, sb_eq hlt]), put_rest (unhide HR1)⟩
        case measure => simp [intOf]; omega
      · rw [ha] at c0
        go_wp2_with fail
        go_roundw
        case rel => exact ⟨k + 1, by omega, by go_num, (unhide HT).setCell (by simp) (by simp) _, free_put (unhide HFr), put_row (unhide HB) hx (by unfold stepF; rw [if_neg hk]; simp [ha]), put_rest (unhide HR)⟩
        case measure => simp [intOf]; omega
    · clear hT hB hR hFr
      go_wp2
      go_end0
      have hke : k = s.size := by omega
      subst hke
      exact ⟨⟨_, rfl⟩, unhide HB, unhide HT, unhide HFr⟩

theorem step_any (n b o : Nat) (v : Value) (t : Tok) (s : ByteArray) (nb no nc mb mo mc : Nat) (f : Nat → Bool) (w : World) (ht : TokAt n w b o v t) (hs : s.size ≤ 281474976710656)
    (hf : BoolsAt w nb no (s.size + 1) f) (hm : ∀ j, j < s.size + 1 → ∃ x, w.cell? ⟨mb, mo + j, none⟩ = some (.bool x)) (hfr : FreeAt w mb) (hne : mb ≠ nb) (hnm : n ≤ mb) (hbm : b ≠ mb) :
    Calls Try.prog 37 #[.pointer (some ⟨b, o, none⟩), .string s, .slice (some ⟨nb, no, none⟩) (s.size + 1) nc, .slice (some ⟨mb, mo, none⟩) (s.size + 1) mc] w fun e w' =>
      (∃ u, e = .returned u) ∧ BoolsAt w' mb mo (s.size + 1) (stepF t s f) ∧ Turns mb 1 w w' ∧ FreeAt w' mb := by
  by_cases hk : t.kind = 3
  · exact step_many n b o v t s nb no nc mb mo mc f w ht hs hf hm hfr hne hk
  · exact step_one n b o v t s nb no nc mb mo mc f w ht hs hf hm hfr hne hnm hbm hk

end Go.Proofs.Ytegaonlpbcpobaa

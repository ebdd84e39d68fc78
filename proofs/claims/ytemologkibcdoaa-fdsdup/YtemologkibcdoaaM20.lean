/-
  Directories (stage 13): walkFrom; a path's last part, as the library cuts it.
  Directories (stage 13): placeOf.
-/
import Derived.Test.YtemologkibcdoaaM19
import Derived.Lib.TrimByte
import Derived.Lib.LastIndexByte

/- Directories (stage 13): walkFrom; a path's last part, as the library cuts it. -/
namespace Go.Proofs.Ytemologkibcdoaa
open Go.RowKit Go.Maps

theorem trim_is (p : List UInt8) : Lib.trimRightB p 47 = stripN p := by
  unfold Lib.trimRightB stripN
  congr 2
theorem take_app {a b l : List UInt8} (h : a ++ b = l) : l.take a.length = a ∧ l.drop a.length = b := by subst h; simp
theorem get_bang (l : List UInt8) (j : Nat) (h : j < l.length) : (BA l).data[j]! = l[j] := by
  show l.toArray[j]! = _
  simp [h]
theorem last_index (l : List UInt8) : Lib.lastIndexByte (BA l) 47 + 1 = ((aheadN l).length : Int) := by
  have hl := ahead_last l
  have hz := last_no l
  have hlen : (aheadN l).length + (lastN l).length = l.length := by rw [← List.length_append, hl]
  have hA : ∀ j, (h : j < (aheadN l).length) → l[j]? = some ((aheadN l)[j]) := fun j h => by
    conv => lhs; rw [← hl]
    rw [List.getElem?_append_left h, List.getElem?_eq_getElem h]
  have hZ : ∀ j, (aheadN l).length ≤ j → (h : j < l.length) → l[j] ≠ 47 := fun j h1 h2 e => by
    have h3 : l[j]? = some 47 := by rw [List.getElem?_eq_getElem h2, e]
    rw [← hl, List.getElem?_append_right h1] at h3
    exact hz 47 (List.mem_of_getElem? h3) rfl
  rcases Lib.lastIndexByte_spec (BA l) 47 with ⟨h1, h2⟩ | ⟨i, hi, h1, h2, h3⟩
  · rw [h1]
    by_cases hA0 : aheadN l = []
    · rw [hA0]; rfl
    · obtain ⟨q, hq⟩ := ahead_snoc hA0
      have h4 : l[q.length]? = some 47 := by
        rw [← hl, hq, List.append_assoc, List.getElem?_append_right (Nat.le_refl _)]
        simp
      have h5 : q.length < l.length := (List.getElem?_eq_some_iff.1 h4).1
      have h6 := h2 q.length (by rw [BA_size]; exact h5)
      rw [get_bang l _ h5] at h6
      rw [List.getElem?_eq_getElem h5] at h4
      rw [Option.some.inj h4] at h6
      exact absurd rfl h6
  · rw [BA_size] at hi
    rw [get_bang l i hi] at h2
    have h2' : l[i] = 47 := by
      apply UInt8.toNat_inj.1
      have : (l[i].toNat : Int) = 47 := h2
      show l[i].toNat = 47
      omega
    have hlt : i < (aheadN l).length := by
      rcases Nat.lt_or_ge i (aheadN l).length with h | h
      · exact h
      · exact absurd h2' (hZ i h hi)
    have hne : aheadN l ≠ [] := fun e => by rw [e] at hlt; exact absurd hlt (Nat.not_lt_zero _)
    obtain ⟨q, hq⟩ := ahead_snoc hne
    have hql : (aheadN l).length = q.length + 1 := by rw [hq]; simp
    have h4 : l[q.length]? = some 47 := by
      rw [← hl, hq, List.append_assoc, List.getElem?_append_right (Nat.le_refl _)]
      simp
    have h5 : q.length < l.length := (List.getElem?_eq_some_iff.1 h4).1
    rw [h1]
    rcases Nat.lt_or_ge i q.length with h6 | h6
    · have h7 := h3 q.length h6 (by rw [BA_size]; exact h5)
      rw [get_bang l _ h5] at h7
      rw [List.getElem?_eq_getElem h5] at h4
      rw [Option.some.inj h4] at h7
      exact absurd rfl h7
    · omega
theorem strip_le (p : List UInt8) : (stripN p).length ≤ p.length := by
  unfold stripN
  rw [List.length_reverse]
  have := (List.dropWhile_sublist (fun c => decide (c = 47)) (l := p.reverse)).length_le
  simpa using this
theorem ext_ahead (p : List UInt8) : (BA p).extract 0 (aheadN p).length = BA (aheadN p) := by
  have := extract_take (BA p) 0 (aheadN p).length
  rw [Nat.zero_add] at this
  rw [this, BA_list, List.drop_zero]
  rw [(take_app (ahead_last p)).1]
theorem ext_last (p : List UInt8) : (BA p).extract (aheadN p).length p.length = BA (lastN p) := by
  have := extract_end (BA p) (aheadN p).length
  rw [BA_size] at this
  rw [this, BA_list]
  rw [(take_app (ahead_last p)).2]
theorem NdX.tight {w : World} {q nb n : Nat} {B : Bas} {Y : Nat → Prop} {s : NS} (H : NdX w q Y s nb n B) : NdX w q (Upto w Y) s nb n B := ⟨H.at'.mono (fun _ hk hy => ⟨hy, hk⟩), H.ok, H.env, fun k hk => H.yb k hk.1⟩
end Go.Proofs.Ytemologkibcdoaa

/- Directories (stage 13): placeOf. -/
namespace Go.Proofs.Ytemologkibcdoaa
open Go.RowKit Go.Maps

/-- What placeOf answers. -/
def PlcIs (R : Int × List UInt8 × Int) (N : Int) (t : List UInt8) (E : Int) : Prop := E = R.2.2 ∧ (R.2.2 = 0 → N = R.1 ∧ t = R.2.1) ∧ t.length ≤ 100000 ∧ 0 ≤ N ∧ N ≤ 1024
theorem plc_no {R : Int × List UInt8 × Int} {E : Int} (h : R.2.2 = E) (hE : E ≠ 0) : PlcIs R 0 [] E := ⟨h.symm, fun e => absurd (h.symm.trans e) hE, Nat.zero_le _, by decide, by decide⟩
theorem plc_ok {R : Int × List UInt8 × Int} {N : Int} {t : List UInt8} (h : R = (N, t, 0)) (ht : t.length ≤ 100000) (h0 : 0 ≤ N) (h1 : N ≤ 1024) : PlcIs R N t 0 := by
  subst h
  exact ⟨rfl, fun _ => ⟨rfl, rfl⟩, ht, h0, h1⟩
theorem below_set2 {w W : World} {pb : Nat} (hb : Below w.heap.size w W) (hp : w.heap.size ≤ pb) (u v : Value) : Below w.heap.size w ((W.setCell ⟨pb, 0, none⟩ u).setCell ⟨pb, 1, none⟩ v) := by
  have g1 : GrownS W (W.setCell ⟨pb, 0, none⟩ u) (fun k => k = pb) := GrownS.of (grown_setCell W _ _) (fun k e => by simpa using e)
  have g2 : GrownS (W.setCell ⟨pb, 0, none⟩ u) ((W.setCell ⟨pb, 0, none⟩ u).setCell ⟨pb, 1, none⟩ v) (fun k => k = pb) := GrownS.of (grown_setCell _ _ _) (fun k e => by simpa using e)
  exact hb.trans ((g1.trans g2).below hb.size (fun k e => by rw [e]; exact hp))
theorem place_is {s : NS} {d : Int} {p : List UInt8} (hd : isD s d = true) : placeN s d p = if p = [] then (0, [], 23) else if lastN (stripN p) = [] ∨ lastN (stripN p) = [46] ∨ lastN (stripN p) = [46, 46] then (0, [], 1) else if 256 < p.length ∨ 32 < (lastN (stripN p)).length then (0, [], 3) else if aheadN (stripN p) = [] then (d, lastN (stripN p), 0) else ((goesN s 8 d (aheadN (stripN p)) true 8).1, lastN (stripN p), (goesN s 8 d (aheadN (stripN p)) true 8).2.1) := by
  unfold placeN
  rw [if_neg (by rw [hd]; decide)]
  split
  · rfl
  · split
    · rfl
    · split
      · rfl
      · by_cases h : aheadN (stripN p) = []
        · rw [if_pos h, if_pos h]
        · rw [if_neg h, if_neg h]
          unfold walkN
          rw [if_pos hd]
          dsimp only
          obtain ⟨q, hq⟩ := ahead_snoc h
          rw [hq]
          rw [if_neg]
          rintro ⟨h1, h2⟩
          rw [goes_dir h1] at h2
          cases h2
theorem last_le (p : List UInt8) : (lastN p).length ≤ p.length := by
  have := ahead_last p
  have h2 : (aheadN p).length + (lastN p).length = p.length := by rw [← List.length_append, this]
  omega
theorem ahead_le (p : List UInt8) : (aheadN p).length + (lastN p).length = p.length := by
  rw [← List.length_append, ahead_last]
end Go.Proofs.Ytemologkibcdoaa

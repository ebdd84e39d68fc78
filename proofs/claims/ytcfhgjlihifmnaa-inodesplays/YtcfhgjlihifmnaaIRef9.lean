/-
  The document's table: Write.
-/
import Derived.Test.YtcfhgjlihifmnaaIRef8
import Derived.Test.YtcfhgjlihifmnaaIRef4
import Derived.Test.YtcfhgjlihifmnaaIWr
namespace Go.Proofs.Ytcfhgjlihifmnaa
open Go.RowKit Go.Maps

theorem hasP_next (h : Nat → Bool) (a m : Nat) : hasP h a (m + 1) = fun k => if k = (a + m) / 64 then true else hasP h a m k := by
  funext j
  unfold hasP
  by_cases e : j = (a + m) / 64
  · rw [if_pos e, show (decide (0 < m + 1) && decide (a / 64 ≤ j) && decide (64 * j < a + (m + 1))) = true by simp; omega]
    simp
  · rw [if_neg e]
    congr 1
    by_cases h1 : a / 64 ≤ j
    · by_cases h2 : 64 * j < a + m
      · by_cases h3 : 0 < m
        · rw [show decide (0 < m) = true by simpa using h3, show decide (64 * j < a + m) = true by simpa using h2, show decide (0 < m + 1) = true by simp, show decide (64 * j < a + (m + 1)) = true by simp; omega]
        · rw [show decide (0 < m) = false by simpa using h3, show decide (64 * j < a + (m + 1)) = false by simp; omega]
          simp
      · rw [show decide (64 * j < a + m) = false by simpa using h2, show decide (64 * j < a + (m + 1)) = false by simp; omega]
        simp
    · rw [show decide (a / 64 ≤ j) = false by simpa using h1]
      simp
theorem hasP_same {h : Nat → Bool} {a m : Nat} (hh : hasP h a m ((a + m) / 64) = true) : hasP h a (m + 1) = hasP h a m := by
  rw [hasP_next]
  funext k
  split
  · rename_i e; rw [e, hh]
  · rfl
def hasM (x : Nd) (a m : Nat) : Nd := { x with has := hasP x.has a m }
theorem datOf_putN (x : Nd) (hz : ∀ j, x.size ≤ j → x.byt j = 0) (a m : Nat) (d : List UInt8) (hm : m ≤ d.length) : datOf (putN x a d m) = ((datOf x) ++ List.replicate (a + m - x.size) 0).take a ++ d.take m ++ ((datOf x) ++ List.replicate (a + m - x.size) 0).drop (a + m) := by
  have hel : ((datOf x) ++ List.replicate (a + m - x.size) 0).length = max x.size (a + m) := by rw [List.length_append, datOf_len, List.length_replicate]; omega
  have heg : ∀ j, ((datOf x) ++ List.replicate (a + m - x.size) 0).getD j 0 = x.byt j := fun j => by
    rw [List.getD_eq_getElem?_getD, List.getElem?_append, datOf_len]
    split
    · rename_i h
      rw [datOf_get x j h]
      rfl
    · rename_i h
      rw [List.getElem?_replicate, hz j (by omega)]
      split <;> rfl
  have hs : (putN x a d m).size = max x.size (a + m) := rfl
  generalize hE : (datOf x) ++ List.replicate (a + m - x.size) 0 = E at hel heg ⊢
  apply List.ext_getElem
  · rw [datOf_len, hs, List.length_append, List.length_append, List.length_take, List.length_take, List.length_drop, hel]
    omega
  · intro j h1 h2
    rw [datOf_len, hs] at h1
    simp only [datOf, List.getElem_map, List.getElem_range]
    show (if a ≤ j ∧ j < a + m then d.getD (j - a) 0 else x.byt j) = _
    by_cases h3 : j < a
    · rw [if_neg (by omega), List.getElem_append_left (by simp; omega), List.getElem_append_left (by simp; omega), List.getElem_take, ← heg j, List.getD_eq_getElem?_getD, List.getElem?_eq_getElem (by omega)]
      rfl
    · by_cases h4 : j < a + m
      · rw [if_pos (by omega), List.getElem_append_left (by simp; omega), List.getElem_append_right (by simp; omega), List.getElem_take, List.getD_eq_getElem?_getD, List.getElem?_eq_getElem (by omega)]
        simp
        congr 1
        omega
      · rw [if_neg (by omega), List.getElem_append_right (by simp; omega), List.getElem_drop, ← heg j, List.getD_eq_getElem?_getD, List.getElem?_eq_getElem (by omega)]
        simp
        congr 1
        omega
/-- How far the document's Write is. -/
structure WS (w wr : World) (q nb : Nat) (Y : Nat → Prop) (T : TB) (k : Nat) (x : Nd) (a m fr : Nat) : Prop where
  at' : RAt wr q Y (T.set k (some (hasM x a m))) nb
  gr : GrownS w wr Y
  cn : fr + cnt (hasP x.has a m) = nb - usedT T + cnt x.has
theorem WS.start {w wr : World} {q nb : Nat} {Y : Nat → Prop} {T : TB} {k : Nat} {x : Nd} (hk : T[k]? = some (some x)) (a : Nat) (h : RAt wr q Y T nb) (hg : GrownS w wr Y) : WS w wr q nb Y T k x a 0 (nb - usedT T) := by
  have e : hasM x a 0 = x := by
    unfold hasM
    rw [hasP_zero]
  exact ⟨by rw [e, set_self hk]; exact h, hg, by rw [hasP_zero]⟩
theorem WS.look {w wr : World} {q nb : Nat} {Y : Nat → Prop} {T : TB} {k : Nat} {x : Nd} (hk : T[k]? = some (some x)) {a m fr : Nat} (H : WS w wr q nb Y T k x a m fr) (hlt : a + m < 4096) :
    ∃ r2 c2 h2 hc2, wr.cell? ⟨q, 0, none⟩ = some (.slice (some ⟨r2, 0, none⟩) (T.length + 1) c2) ∧ wr.cell? ⟨r2, (k + 1) * 5 + 4, none⟩ = some (.slice (some ⟨h2, 0, none⟩) 64 hc2) ∧ wr.cell? ⟨h2, (a + m) / 64, none⟩ = some (.bool (hasP x.has a m ((a + m) / 64))) ∧ wr.frozen? ⟨h2, (a + m) / 64, none⟩ = false ∧
      (hasP x.has a m ((a + m) / 64) = true → WS w wr q nb Y T k x a (m + 1) fr) ∧ (hasP x.has a m ((a + m) / 64) = false → 0 < fr → WS w (wr.setCell ⟨h2, (a + m) / 64, none⟩ (.bool true)) q nb Y T k x a (m + 1) (fr - 1)) := by
  obtain ⟨⟨K2, a1, a2⟩, a3, a5⟩ := H
  obtain ⟨ds, d1, d2, d3⟩ := a1.has k _ (set_same hk)
  have a4 := a1.tab.cell 0 rfl
  change _ = some (Value.slice (some ⟨K2.r, 0, none⟩) ((T.set k (some (hasM x a m))).length + 1) K2.c) at a4
  rw [List.length_set] at a4
  have hp : (a + m) / 64 < 64 := by omega
  refine ⟨K2.r, K2.c, K2.h (k + 1), K2.hc (k + 1), a4, (a1.cellN (set_same hk) (j := 4) (by decide)).1, d1.cell _ (d3 _ hp), d1.frozen _, fun hh => ?_, fun hh hf => ?_⟩
  · have e : hasM x a (m + 1) = hasM x a m := by unfold hasM; rw [hasP_same hh]
    exact ⟨by rw [e]; exact ⟨K2, a1, a2⟩, a3, by rw [hasP_same hh]; exact a5⟩
  · obtain ⟨b1, b2⟩ := a1.hasSet a2 (set_same hk) hp true
    rw [List.set_set] at b1
    have e : { hasM x a m with has := fun j => if j = (a + m) / 64 then true else (hasM x a m).has j } = hasM x a (m + 1) := by
      unfold hasM
      dsimp only
      rw [hasP_next]
    rw [e] at b1
    refine ⟨b1, a3.trans b2, ?_⟩
    have h1 := cnt_upd (hasP x.has a m) ((a + m) / 64) true hp
    rw [hh, if_neg (by decide), if_pos rfl] at h1
    rw [hasP_next]
    omega
/-- Where it ends because no block is free. -/
theorem put_stop {h : Nat → Bool} {F a n m fr : Nat} (hc : fr + cnt (hasP h a m) = F + cnt h) (hn : m < n) (ha : a + m < 4096) (hno : hasP h a m ((a + m) / 64) = false) (hf : fr = 0) : PutSp h F a (min n (4096 - a)) m := by
  refine ⟨by omega, by omega, by omega, .inr ⟨by omega, ?_, ?_⟩⟩
  · unfold hasP at hno
    simp only [Bool.or_eq_false_iff] at hno
    exact hno.1
  · unfold hasP at hno
    simp only [Bool.or_eq_false_iff, Bool.and_eq_false_iff, decide_eq_false_iff_not] at hno
    omega
theorem put_full {h : Nat → Bool} {F a n m fr : Nat} (hc : fr + cnt (hasP h a m) = F + cnt h) (hn : m ≤ n) (ha : a + m ≤ 4096) (he : m = n ∨ 4096 ≤ a + m) : PutSp h F a (min n (4096 - a)) m :=
  ⟨by omega, ha, by omega, .inl (by omega)⟩

end Go.Proofs.Ytcfhgjlihifmnaa

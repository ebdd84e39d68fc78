/-
  A store: what it has, as a list (an empty text is a free block); what each call makes of it; how it lies in memory.
  within, find, slices.Index of bools; New.
-/
import Derived.Test.YtemologkibcdoaaM01

/- A store: what it has, as a list (an empty text is a free block); what each call makes of it; how it lies in memory. -/
namespace Go.Proofs.Ytemologkibcdoaa
open Go.RowKit

abbrev BL := List (List UInt8)
def z64 : List UInt8 := List.replicate 64 0
/-- Byte j of the block at i: 0 where it is free. -/
def bAt (l : BL) (i j : Nat) : UInt8 := (l.getD i []).getD j 0
structure Wf (l : BL) : Prop where
  each : ∀ x ∈ l, x = [] ∨ x.length = 64
  pos : 1 ≤ l.length
  max : l.length ≤ 4096
/-- Is b a taken block? -/
def tkn (l : BL) (b : Int) : Bool := decide (1 ≤ b) && decide (b ≤ (l.length : Int)) && !(l.getD (b - 1).toNat []).isEmpty
def inB (at' n : Int) : Bool := decide (0 ≤ at') && decide (0 ≤ n) && decide (n ≤ 64 - at')
def freeAt (l : BL) : Nat := l.findIdx (·.isEmpty)
def takeN (l : BL) : Int := if freeAt l < l.length then (freeAt l : Int) + 1 else 0
def takeE (l : BL) : Int := if freeAt l < l.length then 0 else 20
def takeL (l : BL) : BL := if freeAt l < l.length then l.set (freeAt l) z64 else l
def giveE (l : BL) (b : Int) : Int := if tkn l b then 0 else 23
def giveL (l : BL) (b : Int) : BL := if tkn l b then l.set (b - 1).toNat [] else l
def readT (l : BL) (b at' n : Int) : List UInt8 := if tkn l b && inB at' n then ((l.getD (b - 1).toNat []).drop at'.toNat).take n.toNat else []
def readE (l : BL) (b at' n : Int) : Int := if tkn l b then (if inB at' n then 0 else 1) else 23
def putAt (x : List UInt8) (k : Nat) (d : List UInt8) : List UInt8 := x.take k ++ d ++ x.drop (k + d.length)
def writeE (l : BL) (b at' : Int) (d : List UInt8) : Int := if tkn l b then (if inB at' (d.length : Int) then 0 else 1) else 23
def writeL (l : BL) (b at' : Int) (d : List UInt8) : BL := if tkn l b && inB at' (d.length : Int) then l.set (b - 1).toNat (putAt (l.getD (b - 1).toNat []) at'.toNat d) else l
def freeN (l : BL) : Nat := l.countP (·.isEmpty)

theorem Wf.set {l : BL} (h : Wf l) (i : Nat) {x : List UInt8} (hx : x = [] ∨ x.length = 64) : Wf (l.set i x) :=
  ⟨fun y hy => by
    rcases List.mem_or_eq_of_mem_set hy with hy | rfl
    · exact h.each y hy
    · exact hx, by rw [List.length_set]; exact h.pos, by rw [List.length_set]; exact h.max⟩
theorem tkn_some {l : BL} {b : Int} (h : tkn l b = true) : ∃ (i : Nat) (x : List UInt8), b = (i : Int) + 1 ∧ i < l.length ∧ l[i]? = some x ∧ x ≠ [] ∧ (b - 1).toNat = i ∧ l.getD i [] = x := by
  unfold tkn at h
  simp only [Bool.and_eq_true, decide_eq_true_eq, Bool.not_eq_true'] at h
  obtain ⟨⟨h1, h2⟩, h3⟩ := h
  have hi : (b - 1).toNat < l.length := by omega
  refine ⟨(b - 1).toNat, l[(b - 1).toNat], by omega, hi, List.getElem?_eq_getElem hi, ?_, rfl, ?_⟩
  · rw [List.getD_eq_getElem?_getD, List.getElem?_eq_getElem hi] at h3
    intro e
    rw [e] at h3
    cases h3
  · rw [List.getD_eq_getElem?_getD, List.getElem?_eq_getElem hi]
    rfl
theorem tkn_of {l : BL} {i : Nat} {x : List UInt8} (h : l[i]? = some x) : tkn l ((i : Int) + 1) = !x.isEmpty := by
  have hi := (List.getElem?_eq_some_iff.1 h).1
  unfold tkn
  rw [show ((i : Int) + 1 - 1).toNat = i by omega, List.getD_eq_getElem?_getD, h]
  simp
  omega
theorem Wf.len {l : BL} (h : Wf l) {i : Nat} {x : List UInt8} (hi : l[i]? = some x) (hx : x ≠ []) : x.length = 64 := by
  rcases h.each x (List.mem_of_getElem? hi) with e | e
  · exact absurd e hx
  · exact e
theorem inB_some {a n : Int} (h : inB a n = true) : 0 ≤ a ∧ 0 ≤ n ∧ a + n ≤ 64 := by
  unfold inB at h
  simp only [Bool.and_eq_true, decide_eq_true_eq] at h
  omega
theorem inB_no {a n : Int} (h : inB a n = false) : a < 0 ∨ n < 0 ∨ 64 < a + n := by
  unfold inB at h
  simp only [Bool.and_eq_false_iff, decide_eq_false_iff_not] at h
  omega
theorem put_len {x d : List UInt8} {k : Nat} (hx : x.length = 64) (h : k + d.length ≤ 64) : (putAt x k d).length = 64 := by
  unfold putAt
  simp
  omega
theorem Wf.take {l : BL} (h : Wf l) : Wf (takeL l) := by
  unfold takeL
  split
  · exact h.set _ (.inr (by simp [z64]))
  · exact h
theorem Wf.give {l : BL} (h : Wf l) (b : Int) : Wf (giveL l b) := by
  unfold giveL
  split
  · exact h.set _ (.inl rfl)
  · exact h
theorem Wf.write {l : BL} (h : Wf l) (b a : Int) (d : List UInt8) : Wf (writeL l b a d) := by
  unfold writeL
  split
  · rename_i h1
    rw [Bool.and_eq_true] at h1
    obtain ⟨i, x, _, _, hx, hne, e1, e2⟩ := tkn_some h1.1
    obtain ⟨h3, h4, h5⟩ := inB_some h1.2
    rw [e1, e2]
    exact h.set _ (.inr (put_len (h.len hx hne) (by omega)))
  · exact h
theorem take_length (l : BL) : (takeL l).length = l.length := by unfold takeL; split <;> simp
theorem give_length (l : BL) (b : Int) : (giveL l b).length = l.length := by unfold giveL; split <;> simp
theorem write_length (l : BL) (b a : Int) (d : List UInt8) : (writeL l b a d).length = l.length := by unfold writeL; split <;> simp

/-- The cells of the blocks' bytes, and of what is taken. -/
def Bytes (l : BL) (cur : Array Value) : Prop := ∀ i j, i < l.length → j < 64 → cur[64 * i + j]? = some (.int .u8 ((bAt l i j).toNat : Int))
def Takens (l : BL) (cur : Array Value) : Prop := ∀ (i : Nat) (x : List UInt8), l[i]? = some x → cur[i]? = some (Value.bool (!x.isEmpty))
/-- The store at p has l: its bytes in block g, what is taken in block h. -/
structure BAt (w : World) (p g h : Nat) (l : BL) : Prop where
  wf : Wf l
  lies : ∃ c d cs ds, Blk w p 120 #[.slice (some ⟨g, 0, none⟩) l.length c, .slice (some ⟨h, 0, none⟩) l.length d] ∧ Blk w g 146 cs ∧ Blk w h 4 ds ∧ l.length ≤ c ∧ l.length ≤ d ∧ cs.size = c * 64 ∧ ds.size = d ∧ c ≤ maxLen ∧ d ≤ maxLen ∧ Bytes l cs ∧ Takens l ds
theorem BAt.grownS {w w' : World} {p g h : Nat} {l : BL} {S : Nat → Prop} (H : BAt w p g h l) (hg : GrownS w w' S) (hp : ¬ S p) (hb : ¬ S g) (hh : ¬ S h) : BAt w' p g h l := by
  obtain ⟨hw, c, d, cs, ds, h1, h2, h3, h4⟩ := H
  exact ⟨hw, c, d, cs, ds, h1.grownS hg hp, h2.grownS hg hb, h3.grownS hg hh, h4⟩
theorem BAt.lt {w : World} {p g h : Nat} {l : BL} (H : BAt w p g h l) : p < w.heap.size ∧ g < w.heap.size ∧ h < w.heap.size := by
  obtain ⟨hw, c, d, cs, ds, h1, h2, h3, h4⟩ := H
  exact ⟨h1.lt, h2.lt, h3.lt⟩
theorem BAt.below {w w' : World} {p g h : Nat} {l : BL} (H : BAt w p g h l) (hb : Below w.heap.size w w') : BAt w' p g h l :=
  H.grownS (S := fun _ => False) (grownS_of_below hb) (fun e => e) (fun e => e) (fun e => e)
theorem blk_ne {w : World} {a b : Nat} {t u : TypeId} {cs ds : Array Value} (h1 : Blk w a t cs) (h2 : Blk w b u ds) (hne : t ≠ u) : a ≠ b := by
  rintro rfl
  have h3 := (show w.heap[a]? = _ from h1).symm.trans h2
  injection h3 with h3
  injection h3 with _ h4 _
  exact hne h4
theorem BAt.ne {w : World} {p g h : Nat} {l : BL} (H : BAt w p g h l) : p ≠ g ∧ p ≠ h ∧ g ≠ h := by
  obtain ⟨hw, c, d, cs, ds, h1, h2, h3, h4⟩ := H
  exact ⟨blk_ne h1 h2 (by decide), blk_ne h1 h3 (by decide), blk_ne h2 h3 (by decide)⟩

theorem bAt_set {l : BL} {i k j : Nat} {x : List UInt8} (hi : i < l.length) : bAt (l.set i x) k j = if k = i then x.getD j 0 else bAt l k j := by
  unfold bAt
  rw [List.getD_eq_getElem?_getD (l := l.set i x), List.getElem?_set]
  by_cases h : i = k
  · subst h
    simp [hi]
  · rw [if_neg h, if_neg (fun e => h e.symm), ← List.getD_eq_getElem?_getD]
theorem bAt_of {l : BL} {i : Nat} {x : List UInt8} (h : l[i]? = some x) (j : Nat) : bAt l i j = x.getD j 0 := by
  unfold bAt
  rw [List.getD_eq_getElem?_getD (l := l), h]
  rfl
theorem z64_at (j : Nat) : z64.getD j 0 = 0 := by
  unfold z64
  rw [List.getD_eq_getElem?_getD, List.getElem?_replicate]
  split <;> rfl
theorem Takens.set {l : BL} {ds : Array Value} (h : Takens l ds) {i : Nat} {x : List UInt8} (hi : i < l.length) (hs : i < ds.size) : Takens (l.set i x) (ds.setIfInBounds i (.bool (!x.isEmpty))) := by
  intro k y hk
  rw [List.getElem?_set] at hk
  by_cases e : i = k
  · subst e
    rw [if_pos rfl, if_pos hi] at hk
    cases hk
    rw [Array.getElem?_setIfInBounds_self_of_lt hs]
  · rw [if_neg e] at hk
    rw [Array.getElem?_setIfInBounds_ne e]
    exact h k y hk
theorem Bytes.same {l : BL} {cs : Array Value} (h : Bytes l cs) {i : Nat} {x : List UInt8} (hi : i < l.length) (hx : ∀ j, j < 64 → x.getD j 0 = bAt l i j) : Bytes (l.set i x) cs := by
  intro k j hk hj
  rw [List.length_set] at hk
  rw [bAt_set hi]
  by_cases e : k = i
  · subst e
    rw [if_pos rfl, hx j hj]
    exact h k j hk hj
  · rw [if_neg e]
    exact h k j hk hj
/-- Bytes are put into the block at i, from k on. -/
theorem Bytes.put {l : BL} {cs : Array Value} (h : Bytes l cs) {i k : Nat} {x d : List UInt8} (hx : l[i]? = some x) (hl : x.length = 64) (hk : k + d.length ≤ 64) (hs : 64 * l.length ≤ cs.size) :
    Bytes (l.set i (putAt x k d)) (cs.toList.take (64 * i + k) ++ (d.map (fun c => Value.int .u8 (c.toNat : Int)) ++ cs.toList.drop (64 * i + k + d.length))).toArray := by
  have hi := (List.getElem?_eq_some_iff.1 hx).1
  intro m j hm hj
  rw [List.length_set] at hm
  rw [bAt_set hi, List.getElem?_toArray, List.getElem?_append, List.getElem?_append, List.length_take, List.length_map]
  have h0 := h m j hm hj
  have hsz : cs.toList.length = cs.size := by simp
  have hm1 : min (64 * i + k) cs.toList.length = 64 * i + k := Nat.min_eq_left (by omega)
  have hm2 : min k 64 = k := Nat.min_eq_left (by omega)
  rw [hm1]
  by_cases e : m = i
  · subst e
    rw [if_pos rfl]
    unfold putAt
    rw [List.getD_eq_getElem?_getD, List.append_assoc, List.getElem?_append, List.getElem?_append, List.length_take, hl, hm2]
    by_cases h1 : j < k
    · rw [if_pos (by omega), if_pos (by omega), List.getElem?_take, if_pos (by omega), List.getElem?_take, if_pos (by omega)]
      rw [bAt_of hx, List.getD_eq_getElem?_getD] at h0
      simpa using h0
    · rw [if_neg (show ¬ 64 * m + j < 64 * m + k by omega), if_neg h1]
      by_cases h2 : j < k + d.length
      · rw [if_pos (show 64 * m + j - (64 * m + k) < d.length by omega), if_pos (show j - k < d.length by omega), List.getElem?_map, show 64 * m + j - (64 * m + k) = j - k by omega, List.getElem?_eq_getElem (by omega)]
        rfl
      · rw [if_neg (show ¬ 64 * m + j - (64 * m + k) < d.length by omega), if_neg (show ¬ j - k < d.length by omega), List.getElem?_drop, List.getElem?_drop]
        rw [bAt_of hx, List.getD_eq_getElem?_getD] at h0
        rw [show 64 * m + k + d.length + (64 * m + j - (64 * m + k) - d.length) = 64 * m + j by omega, show k + d.length + (j - k - d.length) = j by omega]
        simpa using h0
  · rw [if_neg e]
    rcases Nat.lt_or_gt_of_ne e with e | e
    · rw [if_pos (by omega), List.getElem?_take, if_pos (by omega)]
      simpa using h0
    · rw [if_neg (by omega), if_neg (by omega), List.getElem?_drop, show 64 * i + k + d.length + (64 * m + j - (64 * i + k) - d.length) = 64 * m + j by omega]
      simpa using h0

end Go.Proofs.Ytemologkibcdoaa

/- within, find, slices.Index of bools; New. -/
namespace Go.Proofs.Ytemologkibcdoaa
open Go.RowKit

/-- What find answers. -/
def fndV (l : BL) (g : Nat) (b : Int) : Value := if tkn l b then .tuple #[.pointer (some ⟨g, (b - 1).toNat * 64, none⟩), .int .i64 0] else .tuple #[.pointer none, .int .i64 23]

theorem takeN_of (l : BL) : (if freeAt l < l.length then (freeAt l : Int) else -1) = takeN l - 1 := by unfold takeN; split <;> omega
end Go.Proofs.Ytemologkibcdoaa

/-
  A store: what it has, as a list (an empty text is a free block); what each call makes of it; how it lies in memory.
  within, find, slices.Index of bools; New.
-/
import Derived.Test.YtemologkibcdoaaGreatDoorM01

/- A store: what it has, as a list (an empty text is a free block); what each call makes of it; how it lies in memory. -/
namespace Go.Proofs.YtemologkibcdoaaGreatDoor
open Go.RowKit

abbrev BL := List (List UInt8)
def z64 : List UInt8 := List.replicate 64 0
/-- Byte j of the block at i: 0 where it is free. -/
def bAt (l : BL) (i j : Nat) : UInt8 := (l.getD i []).getD j 0
structure Wf (l : BL) : Prop where
  each : ∀ x ∈ l, x = [] ∨ x.length = 64
  pos : 1 ≤ l.length
  max : l.length ≤ 4096
/-- Is b a taken block? -/
def tkn (l : BL) (b : Int) : Bool := decide (1 ≤ b) && decide (b ≤ (l.length : Int)) && !(l.getD (b - 1).toNat []).isEmpty
def inB (at' n : Int) : Bool := decide (0 ≤ at') && decide (0 ≤ n) && decide (n ≤ 64 - at')
def freeAt (l : BL) : Nat := l.findIdx (·.isEmpty)
def takeN (l : BL) : Int := if freeAt l < l.length then (freeAt l : Int) + 1 else 0
def takeE (l : BL) : Int := if freeAt l < l.length then 0 else 20
def takeL (l : BL) : BL := if freeAt l < l.length then l.set (freeAt l) z64 else l
def giveE (l : BL) (b : Int) : Int := if tkn l b then 0 else 23
def giveL (l : BL) (b : Int) : BL := if tkn l b then l.set (b - 1).toNat [] else l
def readT (l : BL) (b at' n : Int) : List UInt8 := if tkn l b && inB at' n then ((l.getD (b - 1).toNat []).drop at'.toNat).take n.toNat else []
def readE (l : BL) (b at' n : Int) : Int := if tkn l b then (if inB at' n then 0 else 1) else 23
def putAt (x : List UInt8) (k : Nat) (d : List UInt8) : List UInt8 := x.take k ++ d ++ x.drop (k + d.length)
def writeE (l : BL) (b at' : Int) (d : List UInt8) : Int := if tkn l b then (if inB at' (d.length : Int) then 0 else 1) else 23
def writeL (l : BL) (b at' : Int) (d : List UInt8) : BL := if tkn l b && inB at' (d.length : Int) then l.set (b - 1).toNat (putAt (l.getD (b - 1).toNat []) at'.toNat d) else l
def freeN (l : BL) : Nat := l.countP (·.isEmpty)

theorem Wf.set {l : BL} (h : Wf l) (i : Nat) {x : List UInt8} (hx : x = [] ∨ x.length = 64) : Wf (l.set i x) :=
  ⟨fun y hy => by
    rcases List.mem_or_eq_of_mem_set hy with hy | rfl
    · exact h.each y hy
    · exact hx, by rw [List.length_set]; exact h.pos, by rw [List.length_set]; exact h.max⟩
theorem tkn_some {l : BL} {b : Int} (h : tkn l b = true) : ∃ (i : Nat) (x : List UInt8), b = (i : Int) + 1 ∧ i < l.length ∧ l[i]? = some x ∧ x ≠ [] ∧ (b - 1).toNat = i ∧ l.getD i [] = x := by
  unfold tkn at h
  simp only [Bool.and_eq_true, decide_eq_true_eq, Bool.not_eq_true'] at h
  obtain ⟨⟨h1, h2⟩, h3⟩ := h
  have hi : (b - 1).toNat < l.length := by omega
  refine ⟨(b - 1).toNat, l[(b - 1).toNat], by omega, hi, List.getElem?_eq_getElem hi, ?_, rfl, ?_⟩
  · rw [List.getD_eq_getElem?_getD, List.getElem?_eq_getElem hi] at h3
    intro e
    rw [e] at h3
    cases h3
  · rw [List.getD_eq_getElem?_getD, List.getElem?_eq_getElem hi]
    rfl
theorem tkn_of {l : BL} {i : Nat} {x : List UInt8} (h : l[i]? = some x) : tkn l ((i : Int) + 1) = !x.isEmpty := by
  have hi := (List.getElem?_eq_some_iff.1 h).1
  unfold tkn
  rw [show ((i : Int) + 1 - 1).toNat = i by omega, List.getD_eq_getElem?_getD, h]
  simp
  omega
theorem Wf.len {l : BL} (h : Wf l) {i : Nat} {x : List UInt8} (hi : l[i]? = some x) (hx : x ≠ []) : x.length = 64 := by
  rcases h.each x (List.mem_of_getElem? hi) with e | e
  · exact absurd e hx
  · exact e
theorem inB_some {a n : Int} (h : inB a n = true) : 0 ≤ a ∧ 0 ≤ n ∧ a + n ≤ 64 := by
  unfold inB at h
  simp only [Bool.and_eq_true, decide_eq_true_eq] at h
  omega
theorem inB_no {a n : Int} (h : inB a n = false) : a < 0 ∨ n < 0 ∨ 64 < a + n := by
  unfold inB at h
  simp only [Bool.and_eq_false_iff, decide_eq_false_iff_not] at h
  omega
theorem put_len {x d : List UInt8} {k : Nat} (hx : x.length = 64) (h : k + d.length ≤ 64) : (putAt x k d).length = 64 := by
  unfold putAt
  simp
  omega
theorem Wf.take {l : BL} (h : Wf l) : Wf (takeL l) := by
  unfold takeL
  split
  · exact h.set _ (.inr (by simp [z64]))
  · exact h
theorem Wf.give {l : BL} (h : Wf l) (b : Int) : Wf (giveL l b) := by
  unfold giveL
  split
  · exact h.set _ (.inl rfl)
  · exact h
theorem Wf.write {l : BL} (h : Wf l) (b a : Int) (d : List UInt8) : Wf (writeL l b a d) := by
  unfold writeL
  split
  · rename_i h1
    rw [Bool.and_eq_true] at h1
    obtain ⟨i, x, _, _, hx, hne, e1, e2⟩ := tkn_some h1.1
    obtain ⟨h3, h4, h5⟩ := inB_some h1.2
    rw [e1, e2]
    exact h.set _ (.inr (put_len (h.len hx hne) (by omega)))
  · exact h
theorem take_length (l : BL) : (takeL l).length = l.length := by unfold takeL; split <;> simp
theorem give_length (l : BL) (b : Int) : (giveL l b).length = l.length := by unfold giveL; split <;> simp
theorem write_length (l : BL) (b a : Int) (d : List UInt8) : (writeL l b a d).length = l.length := by unfold writeL; split <;> simp

/-- The cells of the blocks' bytes, and of what is taken. -/
def Bytes (l : BL) (cur : Array Value) : Prop := ∀ i j, i < l.length → j < 64 → cur[64 * i + j]? = some (.int .u8 ((bAt l i j).toNat : Int))
def Takens (l : BL) (cur : Array Value) : Prop := ∀ (i : Nat) (x : List UInt8), l[i]? = some x → cur[i]? = some (Value.bool (!x.isEmpty))
/-- The store at p has l: its bytes in block g, what is taken in block h. -/
structure BAt (w : World) (p g h : Nat) (l : BL) : Prop where
  wf : Wf l
  lies : ∃ c d cs ds, Blk w p 166 #[.slice (some ⟨g, 0, none⟩) l.length c, .slice (some ⟨h, 0, none⟩) l.length d] ∧ Blk w g 246 cs ∧ Blk w h 4 ds ∧ l.length ≤ c ∧ l.length ≤ d ∧ cs.size = c * 64 ∧ ds.size = d ∧ c ≤ maxLen ∧ d ≤ maxLen ∧ Bytes l cs ∧ Takens l ds
theorem BAt.grownS {w w' : World} {p g h : Nat} {l : BL} {S : Nat → Prop} (H : BAt w p g h l) (hg : GrownS w w' S) (hp : ¬ S p) (hb : ¬ S g) (hh : ¬ S h) : BAt w' p g h l := by
  obtain ⟨hw, c, d, cs, ds, h1, h2, h3, h4⟩ := H
  exact ⟨hw, c, d, cs, ds, h1.grownS hg hp, h2.grownS hg hb, h3.grownS hg hh, h4⟩
theorem BAt.lt {w : World} {p g h : Nat} {l : BL} (H : BAt w p g h l) : p < w.heap.size ∧ g < w.heap.size ∧ h < w.heap.size := by
  obtain ⟨hw, c, d, cs, ds, h1, h2, h3, h4⟩ := H
  exact ⟨h1.lt, h2.lt, h3.lt⟩
theorem BAt.below {w w' : World} {p g h : Nat} {l : BL} (H : BAt w p g h l) (hb : Below w.heap.size w w') : BAt w' p g h l :=
  H.grownS (S := fun _ => False) (grownS_of_below hb) (fun e => e) (fun e => e) (fun e => e)
theorem blk_ne {w : World} {a b : Nat} {t u : TypeId} {cs ds : Array Value} (h1 : Blk w a t cs) (h2 : Blk w b u ds) (hne : t ≠ u) : a ≠ b := by
  rintro rfl
  have h3 := (show w.heap[a]? = _ from h1).symm.trans h2
  injection h3 with h3
  injection h3 with _ h4 _
  exact hne h4
theorem BAt.ne {w : World} {p g h : Nat} {l : BL} (H : BAt w p g h l) : p ≠ g ∧ p ≠ h ∧ g ≠ h := by
  obtain ⟨hw, c, d, cs, ds, h1, h2, h3, h4⟩ := H
  exact ⟨blk_ne h1 h2 (by decide), blk_ne h1 h3 (by decide), blk_ne h2 h3 (by decide)⟩

theorem bAt_set {l : BL} {i k j : Nat} {x : List UInt8} (hi : i < l.length) : bAt (l.set i x) k j = if k = i then x.getD j 0 else bAt l k j := by
  unfold bAt
  rw [List.getD_eq_getElem?_getD (l := l.set i x), List.getElem?_set]
  by_cases h : i = k
  · subst h
    simp [hi]
  · rw [if_neg h, if_neg (fun e => h e.symm), ← List.getD_eq_getElem?_getD]
theorem bAt_of {l : BL} {i : Nat} {x : List UInt8} (h : l[i]? = some x) (j : Nat) : bAt l i j = x.getD j 0 := by
  unfold bAt
  rw [List.getD_eq_getElem?_getD (l := l), h]
  rfl
theorem z64_at (j : Nat) : z64.getD j 0 = 0 := by
  unfold z64
  rw [List.getD_eq_getElem?_getD, List.getElem?_replicate]
  split <;> rfl
theorem Takens.set {l : BL} {ds : Array Value} (h : Takens l ds) {i : Nat} {x : List UInt8} (hi : i < l.length) (hs : i < ds.size) : Takens (l.set i x) (ds.setIfInBounds i (.bool (!x.isEmpty))) := by
  intro k y hk
  rw [List.getElem?_set] at hk
  by_cases e : i = k
  · subst e
    rw [if_pos rfl, if_pos hi] at hk
    cases hk
    rw [Array.getElem?_setIfInBounds_self_of_lt hs]
  · rw [if_neg e] at hk
    rw [Array.getElem?_setIfInBounds_ne e]
    exact h k y hk
theorem Bytes.same {l : BL} {cs : Array Value} (h : Bytes l cs) {i : Nat} {x : List UInt8} (hi : i < l.length) (hx : ∀ j, j < 64 → x.getD j 0 = bAt l i j) : Bytes (l.set i x) cs := by
  intro k j hk hj
  rw [List.length_set] at hk
  rw [bAt_set hi]
  by_cases e : k = i
  · subst e
    rw [if_pos rfl, hx j hj]
    exact h k j hk hj
  · rw [if_neg e]
    exact h k j hk hj
/-- Bytes are put into the block at i, from k on. -/
theorem Bytes.put {l : BL} {cs : Array Value} (h : Bytes l cs) {i k : Nat} {x d : List UInt8} (hx : l[i]? = some x) (hl : x.length = 64) (hk : k + d.length ≤ 64) (hs : 64 * l.length ≤ cs.size) :
    Bytes (l.set i (putAt x k d)) (cs.toList.take (64 * i + k) ++ (d.map (fun c => Value.int .u8 (c.toNat : Int)) ++ cs.toList.drop (64 * i + k + d.length))).toArray := by
  have hi := (List.getElem?_eq_some_iff.1 hx).1
  intro m j hm hj
  rw [List.length_set] at hm
  rw [bAt_set hi, List.getElem?_toArray, List.getElem?_append, List.getElem?_append, List.length_take, List.length_map]
  have h0 := h m j hm hj
  have hsz : cs.toList.length = cs.size := by simp
  have hm1 : min (64 * i + k) cs.toList.length = 64 * i + k := Nat.min_eq_left (by omega)
  have hm2 : min k 64 = k := Nat.min_eq_left (by omega)
  rw [hm1]
  by_cases e : m = i
  · subst e
    rw [if_pos rfl]
    unfold putAt
    rw [List.getD_eq_getElem?_getD, List.append_assoc, List.getElem?_append, List.getElem?_append, List.length_take, hl, hm2]
    by_cases h1 : j < k
    · rw [if_pos (by omega), if_pos (by omega), List.getElem?_take, if_pos (by omega), List.getElem?_take, if_pos (by omega)]
      rw [bAt_of hx, List.getD_eq_getElem?_getD] at h0
      simpa using h0
    · rw [if_neg (show ¬ 64 * m + j < 64 * m + k by omega), if_neg h1]
      by_cases h2 : j < k + d.length
      · rw [if_pos (show 64 * m + j - (64 * m + k) < d.length by omega), if_pos (show j - k < d.length by omega), List.getElem?_map, show 64 * m + j - (64 * m + k) = j - k by omega, List.getElem?_eq_getElem (by omega)]
        rfl
      · rw [if_neg (show ¬ 64 * m + j - (64 * m + k) < d.length by omega), if_neg (show ¬ j - k < d.length by omega), List.getElem?_drop, List.getElem?_drop]
        rw [bAt_of hx, List.getD_eq_getElem?_getD] at h0
        rw [show 64 * m + k + d.length + (64 * m + j - (64 * m + k) - d.length) = 64 * m + j by omega, show k + d.length + (j - k - d.length) = j by omega]
        simpa using h0
  · rw [if_neg e]
    rcases Nat.lt_or_gt_of_ne e with e | e
    · rw [if_pos (by omega), List.getElem?_take, if_pos (by omega)]
      simpa using h0
    · rw [if_neg (by omega), if_neg (by omega), List.getElem?_drop, show 64 * i + k + d.length + (64 * m + j - (64 * i + k) - d.length) = 64 * m + j by omega]
      simpa using h0

end Go.Proofs.YtemologkibcdoaaGreatDoor

/- within, find, slices.Index of bools; New. -/
namespace Go.Proofs.YtemologkibcdoaaGreatDoor
open Go.RowKit

set_option maxRecDepth 20000 in
set_option maxHeartbeats 1000000 in
theorem within_any (a n : Int) (w : World) (ha : -9223372036854775808 ≤ a ∧ a ≤ 9223372036854775807) : Calls Tryz.prog 149 #[.int .i64 a, .int .i64 n] w fun e w' => e = .returned (.bool (inB a n)) ∧ w' = w := by
  by_cases h1 : 0 ≤ a
  · by_cases h2 : 0 ≤ n
    · by_cases h3 : n ≤ 64 - a
      · go_enter Tryz.func149, Tryz.ntmps149
        go_wp2
        go_ret
        exact ⟨ret_bool (by simp [inB, h1, h2, h3]), rfl⟩
      · go_enter Tryz.func149, Tryz.ntmps149
        go_wp2
        go_ret
        exact ⟨ret_bool (by simp [inB, h1, h2, h3]), rfl⟩
    · go_enter Tryz.func149, Tryz.ntmps149
      go_wp2
      go_ret
      exact ⟨ret_bool (by unfold inB; rw [show decide (0 ≤ n) = false by simpa using h2]; simp), rfl⟩
  · go_enter Tryz.func149, Tryz.ntmps149
    go_wp2
    go_ret
    exact ⟨ret_bool (by unfold inB; rw [show decide (0 ≤ a) = false by simpa using h1]; rfl), rfl⟩

set_option maxRecDepth 20000 in
theorem find_nil (b : Int) (w : World) : Calls Tryz.prog 148 #[.pointer none, .int .i64 b] w fun e w' => e = .returned (.tuple #[.pointer none, .int .i64 2]) ∧ w' = w := by
  go_enter Tryz.func148, Tryz.ntmps148
  go_wp2
  go_ret2
  exact ⟨rfl, rfl⟩
/-- What find answers. -/
def fndV (l : BL) (g : Nat) (b : Int) : Value := if tkn l b then .tuple #[.pointer (some ⟨g, (b - 1).toNat * 64, none⟩), .int .i64 0] else .tuple #[.pointer none, .int .i64 23]

set_option maxRecDepth 20000 in
set_option maxHeartbeats 1000000 in
theorem find_any (w : World) (p g h : Nat) (l : BL) (b : Int) (H : BAt w p g h l) (hb : -9223372036854775808 ≤ b ∧ b ≤ 9223372036854775807) : Calls Tryz.prog 148 #[.pointer (some ⟨p, 0, none⟩), .int .i64 b] w fun e w' => e = .returned (fndV l g b) ∧ w' = w := by
  obtain ⟨hw, c, d, cs, ds, k1, k2, k3, h1, h2, h3, h4, h5, h6, hB, hT⟩ := H
  have q0 := k1.cell 0 rfl
  have q1 := k1.cell 1 rfl
  have hmx := hw.max
  obtain ⟨n, hn⟩ : ∃ n, n = l.length := ⟨_, rfl⟩
  rw [← hn] at q0 q1 h1 h2 hmx
  have HN := hide hn
  clear hn
  by_cases hlt : b < 1
  · have hv : fndV l g b = .tuple #[.pointer none, .int .i64 23] := by
      unfold fndV tkn
      rw [show decide (1 ≤ b) = false by simpa using hlt]
      rfl
    rw [hv]
    clear hv hB hT k1 k2 k3
    go_enter Tryz.func148, Tryz.ntmps148
    go_wp2
    go_ret2
    exact ⟨rfl, rfl⟩
  · by_cases hgt : (n : Int) < b
    · have hv : fndV l g b = .tuple #[.pointer none, .int .i64 23] := by
        unfold fndV tkn
        rw [← unhide HN, show decide (b ≤ (n : Int)) = false by simpa using hgt]
        simp
      rw [hv]
      clear hv hB hT k1 k2 k3
      go_enter Tryz.func148, Tryz.ntmps148
      go_wp2
      go_ret2
      exact ⟨rfl, rfl⟩
    · obtain ⟨i, rfl⟩ : ∃ i : Nat, b = (i : Int) + 1 := ⟨(b - 1).toNat, by omega⟩
      have hi : i < l.length := by have := unhide HN; omega
      obtain ⟨x, hx⟩ : ∃ x, l[i]? = some x := ⟨_, List.getElem?_eq_getElem hi⟩
      have hv : fndV l g ((i : Int) + 1) = if (!x.isEmpty) then .tuple #[.pointer (some ⟨g, i * 64, none⟩), .int .i64 0] else .tuple #[.pointer none, .int .i64 23] := by
        unfold fndV
        rw [tkn_of hx, show ((i : Int) + 1 - 1).toNat = i by omega]
      rw [hv]
      have c2 := k3.cell i (hT i x hx)
      have hi1 : (i : Int) < (n : Int) := by have := unhide HN; omega
      cases hx0 : x.isEmpty with
      | true =>
        rw [hx0] at c2
        clear hv hB hT k1 k2 k3 hx hx0 hi
        go_enter Tryz.func148, Tryz.ntmps148
        go_wp2
        go_ret2
        exact ⟨rfl, rfl⟩
      | false =>
        rw [hx0] at c2
        clear hv hB hT k1 k2 k3 hx hx0 hi
        go_enter Tryz.func148, Tryz.ntmps148
        go_wp2
        go_ret2
        exact ⟨rfl, rfl⟩


set_option maxRecDepth 20000 in
set_option maxHeartbeats 1000000 in
theorem index_any (w : World) (g c : Nat) (l : BL) (cs : Array Value) (k : Blk w g 4 cs) (hT : Takens l cs) (hn : l.length ≤ 4096) : Calls Tryz.prog 200 #[.slice (some ⟨g, 0, none⟩) l.length c, .bool false] w fun e w' => e = .returned (.int .i64 (if freeAt l < l.length then (freeAt l : Int) else -1)) ∧ w' = w := by
  obtain ⟨n, hl⟩ : ∃ n, n = l.length := ⟨_, rfl⟩
  have HF : Hid (∀ i, i ≤ freeAt l → i < l.length → ∃ x, l[i]? = some x ∧ (x.isEmpty = decide (i = freeAt l))) := hide (by
    intro i hi hl
    refine ⟨l[i], List.getElem?_eq_getElem hl, ?_⟩
    by_cases e : i = freeAt l
    · rw [show decide (i = freeAt l) = true by simpa using e]
      have h2 : freeAt l < l.length := by omega
      have h3 : (l[freeAt l]).isEmpty = true := List.findIdx_getElem (w := h2)
      subst e
      exact h3
    · rw [show decide (i = freeAt l) = false by simpa using e]
      have := List.not_of_lt_findIdx (show i < l.findIdx (·.isEmpty) by unfold freeAt at hi e; omega)
      simpa using this)
  have HFL : Hid (freeAt l ≤ n) := hide (by rw [hl]; exact List.findIdx_le_length)
  rw [← hl] at hn ⊢
  obtain ⟨f, hf⟩ : ∃ f, f = freeAt l := ⟨_, rfl⟩
  rw [← hf] at HF HFL ⊢
  obtain ⟨r, hr⟩ : ∃ r : Int, r = if f < n then (f : Int) else -1 := ⟨_, rfl⟩
  rw [← hr]
  have HR := hide hr
  have HT := hide hT
  have HK := hide k
  have HN := hide hl
  clear hf hT k hl hr
  go_enter Tryz.func200, Tryz.ntmps200
  go_wp2
  go_loop [8] (fun i => ∃ k : Nat, i = .int .i64 k ∧ k ≤ f) (fun i => n - (intOf i).toNat)
  case atStart => exact ⟨0, rfl, Nat.zero_le _⟩
  case round =>
    obtain ⟨k, rfl, hk⟩ := hrel
    have hfn := unhide HFL
    by_cases hlt : k < n
    · obtain ⟨x, hx, hx2⟩ := unhide HF k hk (by have := unhide HN; omega)
      have c1 := (unhide HK).cell k (unhide HT k x hx)
      have hk1 : (k : Int) < (n : Int) := by omega
      have hk0 : (0 : Int) ≤ (k : Int) := by omega
      rw [hx2] at c1
      clear hx hx2
      by_cases e : k = f
      · rw [show decide (k = f) = true by simpa using e] at c1
        have HE := hide e
        clear e
        go_wp2
        go_ret
        exact ⟨ret_int (by have := unhide HE; have h2 := unhide HR; rw [if_pos (by omega)] at h2; omega), rfl⟩
      · rw [show decide (k = f) = false by simpa using e] at c1
        go_wp2
        go_round
        case rel => exact ⟨k + 1, by go_num, by omega⟩
        case measure => simp [intOf]; omega
    · go_wp2
      go_ret
      exact ⟨ret_int (by have h2 := unhide HR; rw [if_neg (by omega)] at h2; exact h2.symm), rfl⟩

theorem takeN_of (l : BL) : (if freeAt l < l.length then (freeAt l : Int) else -1) = takeN l - 1 := by unfold takeN; split <;> omega
set_option maxRecDepth 20000 in
theorem take_nil (w : World) : Calls Tryz.prog 199 #[.pointer none] w fun e w' => e = .returned (.tuple #[.int .i64 0, .int .i64 2]) ∧ w' = w := by
  go_enter Tryz.func199, Tryz.ntmps199
  go_wp2
  go_ret2
  exact ⟨rfl, rfl⟩
set_option maxRecDepth 20000 in
set_option maxHeartbeats 1000000 in
theorem take_any (w : World) (p g h : Nat) (l : BL) (H : BAt w p g h l) : Calls Tryz.prog 199 #[.pointer (some ⟨p, 0, none⟩)] w fun e w' => e = .returned (.tuple #[.int .i64 (takeN l), .int .i64 (takeE l)]) ∧ BAt w' p g h (takeL l) ∧ GrownS w w' (fun k => k = h) := by
  have HH := hide H
  obtain ⟨hw, c, d, cs, ds, k1, k2, k3, h1, h2, h3, h4, h5, h6, hB, hT⟩ := H
  have HI := hide (index_any w h d l ds k3 hT hw.max)
  have hmx := hw.max
  have q1 := k1.cell 1 rfl
  obtain ⟨n, hn⟩ : ∃ n, n = l.length := ⟨_, rfl⟩
  rw [← hn] at HI q1 h1 h2 hmx
  have HN := hide hn
  clear hn
  by_cases hf : freeAt l < l.length
  · obtain ⟨f, hfe⟩ : ∃ f, f = freeAt l := ⟨_, rfl⟩
    have hfn : f < n := by have := unhide HN; omega
    obtain ⟨x, hx⟩ : ∃ x, l[f]? = some x := ⟨_, List.getElem?_eq_getElem (by omega)⟩
    have hx0 : x = [] := by
      have h2 : (l[freeAt l]).isEmpty = true := List.findIdx_getElem (w := hf)
      have h3 : l[freeAt l]? = some x := by rw [← hfe]; exact hx
      rw [List.getElem?_eq_getElem hf] at h3
      cases h3
      exact List.isEmpty_iff.1 h2
    have c2 := k3.cell f (hT f x hx)
    have f2 := k3.frozen f
    rw [show takeN l = (f : Int) + 1 by unfold takeN; rw [if_pos hf, hfe], show takeE l = 0 by unfold takeE; rw [if_pos hf], show takeL l = l.set f z64 by unfold takeL; rw [if_pos hf, hfe]]
    rw [if_pos (by rw [← unhide HN] at hf; exact hf), ← hfe] at HI
    have HR : Hid (BAt (w.setCell ⟨h, f, none⟩ (.bool true)) p g h (l.set f z64) ∧ GrownS w (w.setCell ⟨h, f, none⟩ (.bool true)) (fun k => k = h)) := hide (by
      have hg := GrownS.of (S := fun k => k = h) (grown_setCell w ⟨h, f, none⟩ (.bool true)) (fun k e => by simpa using e)
      have hne := (unhide HH).ne
      refine ⟨⟨hw.set _ (.inr (by simp [z64])), c, d, cs, ds.setIfInBounds f (.bool true), ?_, k2.grownS hg hne.2.2, k3.set f (.bool true), by rw [List.length_set, ← unhide HN]; exact h1, by rw [List.length_set, ← unhide HN]; exact h2, h3, by simpa using h4, h5, h6, ?_, ?_⟩, hg⟩
      · have := k1.grownS hg hne.2.1
        rwa [List.length_set]
      · exact hB.same (by omega) (fun j hj => by rw [z64_at, bAt_of hx, hx0]; rfl)
      · exact hT.set (x := z64) (by omega) (by omega))
    have hfi : (f : Int) < (n : Int) := by omega
    have hf0 : (0 : Int) ≤ (f : Int) := by omega
    clear hB hT k1 k2 k3 hx hf hfe HH
    go_enter Tryz.func199, Tryz.ntmps199
    go_wp2_with fail
    refine (unhide HI).mono ?_
    rintro e w1 ⟨rfl, hw1⟩
    rw [show w1 = w from hw1]
    clear hw1
    go_wp2
    go_ret2
    exact ⟨rfl, unhide HR⟩
  · rw [show takeN l = 0 by unfold takeN; rw [if_neg hf], show takeE l = 20 by unfold takeE; rw [if_neg hf], show takeL l = l by unfold takeL; rw [if_neg hf]]
    rw [if_neg (by rw [← unhide HN] at hf; exact hf)] at HI
    clear hB hT k1 k2 k3 hf
    go_enter Tryz.func199, Tryz.ntmps199
    go_wp2_with fail
    refine (unhide HI).mono ?_
    rintro e w1 ⟨rfl, hw1⟩
    rw [show w1 = w from hw1]
    clear hw1
    go_wp2
    go_ret2
    exact ⟨rfl, unhide HH, grownS_of_below (Below.refl _ _)⟩

end Go.Proofs.YtemologkibcdoaaGreatDoor

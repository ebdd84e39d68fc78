/-
  Blocks of cells that are known whole; texts as lists; small helpers.
  Which blocks a step may turn; rows that a call owns.
  A store: what it has, as a list (an empty text is a free block); what each call makes of it; how it lies in memory.
-/
import Derived.Test.YtnpeiibecihleaaGreatDoorRows
import Derived.WalkKit
import Derived.WalkSpells
import Derived.WalkLawsBesides
import Derived.Below
import Derived.Maps.OwnSet
import Derived.BigQuiet
/- Blocks of cells that are known whole; texts as lists; small helpers. -/
namespace Go.Proofs.YtnpeiibecihleaaGreatDoor
open Go.RowKit

theorem hide {p : Prop} (h : p) : Hid p := h
theorem unhide {p : Prop} (h : Hid p) : p := h
theorem ret_bool {a b : Bool} (h : a = b) : Ending.returned (.bool a) = .returned (.bool b) := by rw [h]
theorem ret_int {k : IntKind} {a b : Int} (h : a = b) : Ending.returned (.int k a) = .returned (.int k b) := by rw [h]

/-- Block b is just these cells. -/
def Blk (w : World) (b : Nat) (t : TypeId) (cs : Array Value) : Prop := w.heap[b]? = some (.cells cs t (0, 0))
theorem Blk.lt {w : World} {b : Nat} {t : TypeId} {cs : Array Value} (h : Blk w b t cs) : b < w.heap.size := (Array.getElem?_eq_some_iff.1 h).1
theorem Blk.cell {w : World} {b : Nat} {t : TypeId} {cs : Array Value} (h : Blk w b t cs) (i : Nat) {v : Value} (hv : cs[i]? = some v) : w.cell? ⟨b, i, none⟩ = some v := by
  simp [World.cell?, show w.heap[b]? = _ from h, hv]
theorem Blk.frozen {w : World} {b : Nat} {t : TypeId} {cs : Array Value} (h : Blk w b t cs) (i : Nat) : w.frozen? ⟨b, i, none⟩ = false := by
  simp [World.frozen?, show w.heap[b]? = _ from h]
theorem Blk.new (w : World) (t : TypeId) (cs : Array Value) : Blk (w.alloc (.cells cs t)) w.heap.size t cs := by show (w.heap.push _)[w.heap.size]? = _; simp
theorem Blk.below {w w' : World} {n b : Nat} {t : TypeId} {cs : Array Value} (h : Blk w b t cs) (hb : Below n w w') (hn : b < n) : Blk w' b t cs := (hb.block b hn).trans h
theorem Blk.kept {w w' : World} {row : Option Nat} {b : Nat} {t : TypeId} {cs : Array Value} (h : Blk w b t cs) (hg : w.grownBy w' row) (hne : some b ≠ row) : Blk w' b t cs := (hg.block b h.lt hne).trans h
theorem Blk.alloc {w : World} {b : Nat} {t : TypeId} {cs : Array Value} (h : Blk w b t cs) (o : Obj) : Blk (w.alloc o) b t cs := h.kept (World.grownBy_alloc w o none) (by simp)
theorem Blk.set {w : World} {b : Nat} {t : TypeId} {cs : Array Value} (h : Blk w b t cs) (i : Nat) (v : Value) : Blk (w.setCell ⟨b, i, none⟩ v) b t (cs.setIfInBounds i v) := by
  obtain ⟨hlt, hk⟩ := Array.getElem?_eq_some_iff.1 h
  show (w.heap.modify b _)[b]? = _
  rw [Array.getElem?_eq_getElem (by rw [Array.size_modify]; exact hlt), Array.getElem_modify_self, hk]
  rfl
theorem grown_setCell (w : World) (a : Addr) (v : Value) : w.grownBy (w.setCell a v) (some a.block) :=
  ⟨rfl, rfl, rfl, by simp, fun k _ hk => Below.heap_setCell _ _ _ k (fun e => hk (by rw [e]))⟩
theorem Blk.other {w : World} {b : Nat} {t : TypeId} {cs : Array Value} (h : Blk w b t cs) {a : Addr} (ha : b ≠ a.block) (v : Value) : Blk (w.setCell a v) b t cs := h.kept (grown_setCell w a v) (fun e => ha (by simpa using e))

theorem grown_of_below {w w' : World} (h : Below w.heap.size w w') : w.grownBy w' none := ⟨h.os, h.tape, h.output, h.size, fun i hi _ => h.block i hi⟩
theorem grown_but {a c : World} (h : a.grownBy c none) (row : Option Nat) : a.grownBy c row := ⟨h.os, h.tape, h.output, h.size, fun i hi _ => h.block i hi (by simp)⟩
theorem below_of_grown {w w' : World} (h : w.grownBy w' none) : Below w.heap.size w w' := ⟨h.os, h.tape, h.output, h.size, fun i hi => h.block i hi (by simp)⟩
theorem below_some {w w' : World} {b : Nat} (h : w.grownBy w' (some b)) (hb : b ≤ w.heap.size) : Below b w w' := ⟨h.os, h.tape, h.output, h.size, fun i hi => h.block i (by omega) (by simp; omega)⟩
theorem grown_drewN (w : World) (n : Nat) : w.grownBy (w.drewN n) none := ⟨rfl, rfl, rfl, Nat.le_refl _, fun _ _ _ => rfl⟩
theorem res0 {fn : Func} (h : fn.results = #[]) (tmps : Array Value) (w : World) : (results fn tmps).run Tryz.prog w = .ok (.tuple #[]) w := by
  unfold results
  rw [h]
  simp [go_sem]

/-- A list's bytes as a text. -/
def BA (l : List UInt8) : ByteArray := ⟨l.toArray⟩
@[simp] theorem BA_list (l : List UInt8) : (BA l).data.toList = l := rfl
@[simp] theorem BA_size (l : List UInt8) : (BA l).size = l.length := rfl
theorem BA_of (s : ByteArray) : BA s.data.toList = s := rfl
theorem BA_inj {a b : List UInt8} (h : BA a = BA b) : a = b := congrArg (fun x : ByteArray => x.data.toList) h
theorem data_get (s : ByteArray) (k : Nat) (h : k < s.size) : s.data.toList[k]'(by simpa using h) = s[k] := by
  simp; rfl
theorem data_len (s : ByteArray) : s.data.toList.length = s.size := by simp
theorem extract_take (s : ByteArray) (p k : Nat) : s.extract p (p + k) = BA ((s.data.toList.drop p).take k) := by
  unfold BA
  apply ByteArray.ext
  rw [ByteArray.data_extract]
  apply Array.ext'
  simp [List.take_drop, Nat.add_sub_cancel_left]
theorem extract_end (s : ByteArray) (p : Nat) : s.extract p s.size = BA (s.data.toList.drop p) := by
  unfold BA
  apply ByteArray.ext
  rw [ByteArray.data_extract]
  apply Array.ext'
  simp
  rw [List.take_of_length_le (by simp)]
theorem drop_step {s : ByteArray} {p : Nat} {c : UInt8} {r : List UInt8} (h : s.data.toList.drop p = c :: r) : p < s.size ∧ s.data.toList.drop (p + 1) = r := by
  refine ⟨?_, ?_⟩
  · rcases Nat.lt_or_ge p s.size with h1 | h1
    · exact h1
    · rw [List.drop_eq_nil_of_le (by simpa using h1)] at h
      cases h
  · rw [← List.drop_drop, h]
    rfl
theorem drop_at {s : ByteArray} {p : Nat} (h : p < s.size) : s.data.toList.drop p = s[p] :: s.data.toList.drop (p + 1) := by
  rw [List.drop_eq_getElem_cons (by simpa using h), data_get s p h]
theorem get_of {s : ByteArray} {p : Nat} {c : UInt8} {r : List UInt8} (h : s.data.toList.drop p = c :: r) (hp : p < s.size) : s[p] = c := by
  rw [drop_at hp] at h
  exact (List.cons.inj h).1
theorem drop_nil {s : ByteArray} {p : Nat} (h : s.size ≤ p) : s.data.toList.drop p = [] := List.drop_eq_nil_of_le (by simpa using h)
theorem place_of {s : ByteArray} {p : Nat} (h : p ≤ s.size) : s.size - (s.data.toList.drop p).length = p := by rw [List.length_drop, data_len]; omega

end Go.Proofs.YtnpeiibecihleaaGreatDoor

/- Which blocks a step may turn; rows that a call owns. -/
namespace Go.Proofs.YtnpeiibecihleaaGreatDoor
open Go.RowKit

/-- From w to w1: new blocks, and of the old ones only such as S names have turned. -/
structure GrownS (w w1 : World) (S : Nat → Prop) : Prop where
  os : w1.os = w.os
  tape : w1.tape = w.tape
  output : w1.output = w.output
  size : w.heap.size ≤ w1.heap.size
  block : ∀ k, k < w.heap.size → ¬ S k → w1.heap[k]? = w.heap[k]?
theorem GrownS.of {w w1 : World} {row : Option Nat} {S : Nat → Prop} (h : w.grownBy w1 row) (hs : ∀ k, some k = row → S k) : GrownS w w1 S :=
  ⟨h.os, h.tape, h.output, h.size, fun k hk hn => h.block k hk (fun e => hn (hs k e))⟩
theorem GrownS.trans {w w1 w2 : World} {S : Nat → Prop} (h : GrownS w w1 S) (h2 : GrownS w1 w2 S) : GrownS w w2 S :=
  ⟨h2.os.trans h.os, h2.tape.trans h.tape, h2.output.trans h.output, Nat.le_trans h.size h2.size, fun k hk hn => (h2.block k (Nat.lt_of_lt_of_le hk h.size) hn).trans (h.block k hk hn)⟩
theorem GrownS.mono {w w1 : World} {S T : Nat → Prop} (h : GrownS w w1 S) (hs : ∀ k, k < w.heap.size → S k → T k) : GrownS w w1 T :=
  ⟨h.os, h.tape, h.output, h.size, fun k hk hn => h.block k hk (fun e => hn (hs k hk e))⟩
theorem GrownS.below {w w1 : World} {S : Nat → Prop} {n : Nat} (h : GrownS w w1 S) (hn : n ≤ w.heap.size) (hs : ∀ k, S k → n ≤ k) : Below n w w1 :=
  ⟨h.os, h.tape, h.output, h.size, fun k hk => h.block k (by omega) (fun e => by have := hs k e; omega)⟩
theorem Blk.grownS {w w1 : World} {S : Nat → Prop} {b : Nat} {t : TypeId} {cs : Array Value} (h : Blk w b t cs) (hg : GrownS w w1 S) (hb : ¬ S b) : Blk w1 b t cs := (hg.block b h.lt hb).trans h

/-- A row's block holds elements of one type: it is no other thing's. -/
theorem own_type {w : World} {base n k sz : Nat} {e t : TypeId} {v : Value} {xs : List Value} {cs : Array Value} (h : w.ownsRow base e sz v n xs) (hb : Blk w k t cs) (hne : t ≠ e) : some k ≠ v.ownBlock := by
  rcases h.2 with ⟨rfl, _⟩ | ⟨g, cap, cur, rfl, _, hg, _⟩
  · simp [Value.ownBlock]
  · intro hk
    have hk : k = g := by simpa [Value.ownBlock] using hk
    subst hk
    rw [show w.heap[k]? = _ from hb] at hg
    injection hg with hg
    injection hg with _ h2 _
    exact hne h2


theorem own_grownS {w w1 : World} {base n sz : Nat} {e : TypeId} {v : Value} {xs : List Value} {S : Nat → Prop} (h : w.ownsRow base e sz v n xs) (hg : GrownS w w1 S) (hv : ∀ k, v.ownBlock = some k → ¬ S k) : w1.ownsRow base e sz v n xs := by
  obtain ⟨h0, h1 | ⟨g, cap, cur, rfl, h2, h3, h4⟩⟩ := h
  · exact ⟨h0, .inl h1⟩
  · exact ⟨h0, .inr ⟨g, cap, cur, rfl, h2, (hg.block g (Array.getElem?_eq_some_iff.1 h3).1 (hv g rfl)).trans h3, h4⟩⟩
theorem grownS_of_below {w w1 : World} {S : Nat → Prop} (h : Below w.heap.size w w1) : GrownS w w1 S := ⟨h.os, h.tape, h.output, h.size, fun k hk _ => h.block k hk⟩

theorem below_drew (w : World) (k : Nat) : Below w.heap.size w (w.drewN k) := below_of_grown (grown_drewN w k)
theorem cell_alloc {w : World} {a : Addr} {v : Value} (h : w.cell? a = some v) (o : Obj) : (w.alloc o).cell? a = some v := (World.grownBy_alloc w o none).cell h (by simp)
theorem own_drew {w : World} {B n sz : Nat} {e : TypeId} {v : Value} {xs : List Value} (h : w.ownsRow B e sz v n xs) : w.drew.ownsRow B e sz v n xs :=
  own_grownS (w1 := w.drewN 1) h (grownS_of_below (S := fun _ => False) (below_drew w 1)) (fun _ _ e => e)

end Go.Proofs.YtnpeiibecihleaaGreatDoor

/- A store: what it has, as a list (an empty text is a free block); what each call makes of it; how it lies in memory. -/
namespace Go.Proofs.YtnpeiibecihleaaGreatDoor
open Go.RowKit

abbrev BL := List (List UInt8)
def z64 : List UInt8 := List.replicate 64 0
/-- Byte j of the block at i: 0 where it is free. -/
def bAt (l : BL) (i j : Nat) : UInt8 := (l.getD i []).getD j 0
structure Wf (l : BL) : Prop where
  each : ∀ x ∈ l, x = [] ∨ x.length = 64
  pos : 1 ≤ l.length
  max : l.length ≤ 4096
/-- Is b a taken block? -/
def tkn (l : BL) (b : Int) : Bool := decide (1 ≤ b) && decide (b ≤ (l.length : Int)) && !(l.getD (b - 1).toNat []).isEmpty
def inB (at' n : Int) : Bool := decide (0 ≤ at') && decide (0 ≤ n) && decide (n ≤ 64 - at')
def freeAt (l : BL) : Nat := l.findIdx (·.isEmpty)
def takeN (l : BL) : Int := if freeAt l < l.length then (freeAt l : Int) + 1 else 0
def takeE (l : BL) : Int := if freeAt l < l.length then 0 else 20
def takeL (l : BL) : BL := if freeAt l < l.length then l.set (freeAt l) z64 else l
def giveE (l : BL) (b : Int) : Int := if tkn l b then 0 else 23
def giveL (l : BL) (b : Int) : BL := if tkn l b then l.set (b - 1).toNat [] else l
def readT (l : BL) (b at' n : Int) : List UInt8 := if tkn l b && inB at' n then ((l.getD (b - 1).toNat []).drop at'.toNat).take n.toNat else []
def readE (l : BL) (b at' n : Int) : Int := if tkn l b then (if inB at' n then 0 else 1) else 23
def putAt (x : List UInt8) (k : Nat) (d : List UInt8) : List UInt8 := x.take k ++ d ++ x.drop (k + d.length)
def writeE (l : BL) (b at' : Int) (d : List UInt8) : Int := if tkn l b then (if inB at' (d.length : Int) then 0 else 1) else 23
def writeL (l : BL) (b at' : Int) (d : List UInt8) : BL := if tkn l b && inB at' (d.length : Int) then l.set (b - 1).toNat (putAt (l.getD (b - 1).toNat []) at'.toNat d) else l
def freeN (l : BL) : Nat := l.countP (·.isEmpty)

theorem Wf.set {l : BL} (h : Wf l) (i : Nat) {x : List UInt8} (hx : x = [] ∨ x.length = 64) : Wf (l.set i x) :=
  ⟨fun y hy => by
    rcases List.mem_or_eq_of_mem_set hy with hy | rfl
    · exact h.each y hy
    · exact hx, by rw [List.length_set]; exact h.pos, by rw [List.length_set]; exact h.max⟩
theorem tkn_some {l : BL} {b : Int} (h : tkn l b = true) : ∃ (i : Nat) (x : List UInt8), b = (i : Int) + 1 ∧ i < l.length ∧ l[i]? = some x ∧ x ≠ [] ∧ (b - 1).toNat = i ∧ l.getD i [] = x := by
  unfold tkn at h
  simp only [Bool.and_eq_true, decide_eq_true_eq, Bool.not_eq_true'] at h
  obtain ⟨⟨h1, h2⟩, h3⟩ := h
  have hi : (b - 1).toNat < l.length := by omega
  refine ⟨(b - 1).toNat, l[(b - 1).toNat], by omega, hi, List.getElem?_eq_getElem hi, ?_, rfl, ?_⟩
  · rw [List.getD_eq_getElem?_getD, List.getElem?_eq_getElem hi] at h3
    intro e
    rw [e] at h3
    cases h3
  · rw [List.getD_eq_getElem?_getD, List.getElem?_eq_getElem hi]
    rfl
theorem tkn_of {l : BL} {i : Nat} {x : List UInt8} (h : l[i]? = some x) : tkn l ((i : Int) + 1) = !x.isEmpty := by
  have hi := (List.getElem?_eq_some_iff.1 h).1
  unfold tkn
  rw [show ((i : Int) + 1 - 1).toNat = i by omega, List.getD_eq_getElem?_getD, h]
  simp
  omega
theorem Wf.len {l : BL} (h : Wf l) {i : Nat} {x : List UInt8} (hi : l[i]? = some x) (hx : x ≠ []) : x.length = 64 := by
  rcases h.each x (List.mem_of_getElem? hi) with e | e
  · exact absurd e hx
  · exact e
theorem inB_some {a n : Int} (h : inB a n = true) : 0 ≤ a ∧ 0 ≤ n ∧ a + n ≤ 64 := by
  unfold inB at h
  simp only [Bool.and_eq_true, decide_eq_true_eq] at h
  omega
theorem inB_no {a n : Int} (h : inB a n = false) : a < 0 ∨ n < 0 ∨ 64 < a + n := by
  unfold inB at h
  simp only [Bool.and_eq_false_iff, decide_eq_false_iff_not] at h
  omega
theorem put_len {x d : List UInt8} {k : Nat} (hx : x.length = 64) (h : k + d.length ≤ 64) : (putAt x k d).length = 64 := by
  unfold putAt
  simp
  omega
theorem Wf.take {l : BL} (h : Wf l) : Wf (takeL l) := by
  unfold takeL
  split
  · exact h.set _ (.inr (by simp [z64]))
  · exact h
theorem Wf.give {l : BL} (h : Wf l) (b : Int) : Wf (giveL l b) := by
  unfold giveL
  split
  · exact h.set _ (.inl rfl)
  · exact h
theorem Wf.write {l : BL} (h : Wf l) (b a : Int) (d : List UInt8) : Wf (writeL l b a d) := by
  unfold writeL
  split
  · rename_i h1
    rw [Bool.and_eq_true] at h1
    obtain ⟨i, x, _, _, hx, hne, e1, e2⟩ := tkn_some h1.1
    obtain ⟨h3, h4, h5⟩ := inB_some h1.2
    rw [e1, e2]
    exact h.set _ (.inr (put_len (h.len hx hne) (by omega)))
  · exact h
theorem take_length (l : BL) : (takeL l).length = l.length := by unfold takeL; split <;> simp
theorem give_length (l : BL) (b : Int) : (giveL l b).length = l.length := by unfold giveL; split <;> simp
theorem write_length (l : BL) (b a : Int) (d : List UInt8) : (writeL l b a d).length = l.length := by unfold writeL; split <;> simp

/-- The cells of the blocks' bytes, and of what is taken. -/
def Bytes (l : BL) (cur : Array Value) : Prop := ∀ i j, i < l.length → j < 64 → cur[64 * i + j]? = some (.int .u8 ((bAt l i j).toNat : Int))
def Takens (l : BL) (cur : Array Value) : Prop := ∀ (i : Nat) (x : List UInt8), l[i]? = some x → cur[i]? = some (Value.bool (!x.isEmpty))
/-- The store at p has l: its bytes in block g, what is taken in block h. -/
structure BAt (w : World) (p g h : Nat) (l : BL) : Prop where
  wf : Wf l
  lies : ∃ c d cs ds, Blk w p 169 #[.slice (some ⟨g, 0, none⟩) l.length c, .slice (some ⟨h, 0, none⟩) l.length d] ∧ Blk w g 208 cs ∧ Blk w h 4 ds ∧ l.length ≤ c ∧ l.length ≤ d ∧ cs.size = c * 64 ∧ ds.size = d ∧ c ≤ maxLen ∧ d ≤ maxLen ∧ Bytes l cs ∧ Takens l ds
theorem BAt.grownS {w w' : World} {p g h : Nat} {l : BL} {S : Nat → Prop} (H : BAt w p g h l) (hg : GrownS w w' S) (hp : ¬ S p) (hb : ¬ S g) (hh : ¬ S h) : BAt w' p g h l := by
  obtain ⟨hw, c, d, cs, ds, h1, h2, h3, h4⟩ := H
  exact ⟨hw, c, d, cs, ds, h1.grownS hg hp, h2.grownS hg hb, h3.grownS hg hh, h4⟩
theorem BAt.lt {w : World} {p g h : Nat} {l : BL} (H : BAt w p g h l) : p < w.heap.size ∧ g < w.heap.size ∧ h < w.heap.size := by
  obtain ⟨hw, c, d, cs, ds, h1, h2, h3, h4⟩ := H
  exact ⟨h1.lt, h2.lt, h3.lt⟩
theorem BAt.below {w w' : World} {p g h : Nat} {l : BL} (H : BAt w p g h l) (hb : Below w.heap.size w w') : BAt w' p g h l :=
  H.grownS (S := fun _ => False) (grownS_of_below hb) (fun e => e) (fun e => e) (fun e => e)
theorem blk_ne {w : World} {a b : Nat} {t u : TypeId} {cs ds : Array Value} (h1 : Blk w a t cs) (h2 : Blk w b u ds) (hne : t ≠ u) : a ≠ b := by
  rintro rfl
  have h3 := (show w.heap[a]? = _ from h1).symm.trans h2
  injection h3 with h3
  injection h3 with _ h4 _
  exact hne h4
theorem BAt.ne {w : World} {p g h : Nat} {l : BL} (H : BAt w p g h l) : p ≠ g ∧ p ≠ h ∧ g ≠ h := by
  obtain ⟨hw, c, d, cs, ds, h1, h2, h3, h4⟩ := H
  exact ⟨blk_ne h1 h2 (by decide), blk_ne h1 h3 (by decide), blk_ne h2 h3 (by decide)⟩

theorem bAt_set {l : BL} {i k j : Nat} {x : List UInt8} (hi : i < l.length) : bAt (l.set i x) k j = if k = i then x.getD j 0 else bAt l k j := by
  unfold bAt
  rw [List.getD_eq_getElem?_getD (l := l.set i x), List.getElem?_set]
  by_cases h : i = k
  · subst h
    simp [hi]
  · rw [if_neg h, if_neg (fun e => h e.symm), ← List.getD_eq_getElem?_getD]
theorem bAt_of {l : BL} {i : Nat} {x : List UInt8} (h : l[i]? = some x) (j : Nat) : bAt l i j = x.getD j 0 := by
  unfold bAt
  rw [List.getD_eq_getElem?_getD (l := l), h]
  rfl
theorem z64_at (j : Nat) : z64.getD j 0 = 0 := by
  unfold z64
  rw [List.getD_eq_getElem?_getD, List.getElem?_replicate]
  split <;> rfl
theorem Takens.set {l : BL} {ds : Array Value} (h : Takens l ds) {i : Nat} {x : List UInt8} (hi : i < l.length) (hs : i < ds.size) : Takens (l.set i x) (ds.setIfInBounds i (.bool (!x.isEmpty))) := by
  intro k y hk
  rw [List.getElem?_set] at hk
  by_cases e : i = k
  · subst e
    rw [if_pos rfl, if_pos hi] at hk
    cases hk
    rw [Array.getElem?_setIfInBounds_self_of_lt hs]
  · rw [if_neg e] at hk
    rw [Array.getElem?_setIfInBounds_ne e]
    exact h k y hk
theorem Bytes.same {l : BL} {cs : Array Value} (h : Bytes l cs) {i : Nat} {x : List UInt8} (hi : i < l.length) (hx : ∀ j, j < 64 → x.getD j 0 = bAt l i j) : Bytes (l.set i x) cs := by
  intro k j hk hj
  rw [List.length_set] at hk
  rw [bAt_set hi]
  by_cases e : k = i
  · subst e
    rw [if_pos rfl, hx j hj]
    exact h k j hk hj
  · rw [if_neg e]
    exact h k j hk hj
/-- Bytes are put into the block at i, from k on. -/
theorem Bytes.put {l : BL} {cs : Array Value} (h : Bytes l cs) {i k : Nat} {x d : List UInt8} (hx : l[i]? = some x) (hl : x.length = 64) (hk : k + d.length ≤ 64) (hs : 64 * l.length ≤ cs.size) :
    Bytes (l.set i (putAt x k d)) (cs.toList.take (64 * i + k) ++ (d.map (fun c => Value.int .u8 (c.toNat : Int)) ++ cs.toList.drop (64 * i + k + d.length))).toArray := by
  have hi := (List.getElem?_eq_some_iff.1 hx).1
  intro m j hm hj
  rw [List.length_set] at hm
  rw [bAt_set hi, List.getElem?_toArray, List.getElem?_append, List.getElem?_append, List.length_take, List.length_map]
  have h0 := h m j hm hj
  have hsz : cs.toList.length = cs.size := by simp
  have hm1 : min (64 * i + k) cs.toList.length = 64 * i + k := Nat.min_eq_left (by omega)
  have hm2 : min k 64 = k := Nat.min_eq_left (by omega)
  rw [hm1]
  by_cases e : m = i
  · subst e
    rw [if_pos rfl]
    unfold putAt
    rw [List.getD_eq_getElem?_getD, List.append_assoc, List.getElem?_append, List.getElem?_append, List.length_take, hl, hm2]
    by_cases h1 : j < k
    · rw [if_pos (by omega), if_pos (by omega), List.getElem?_take, if_pos (by omega), List.getElem?_take, if_pos (by omega)]
      rw [bAt_of hx, List.getD_eq_getElem?_getD] at h0
      simpa using h0
    · rw [if_neg (show ¬ 64 * m + j < 64 * m + k by omega), if_neg h1]
      by_cases h2 : j < k + d.length
      · rw [if_pos (show 64 * m + j - (64 * m + k) < d.length by omega), if_pos (show j - k < d.length by omega), List.getElem?_map, show 64 * m + j - (64 * m + k) = j - k by omega, List.getElem?_eq_getElem (by omega)]
        rfl
      · rw [if_neg (show ¬ 64 * m + j - (64 * m + k) < d.length by omega), if_neg (show ¬ j - k < d.length by omega), List.getElem?_drop, List.getElem?_drop]
        rw [bAt_of hx, List.getD_eq_getElem?_getD] at h0
        rw [show 64 * m + k + d.length + (64 * m + j - (64 * m + k) - d.length) = 64 * m + j by omega, show k + d.length + (j - k - d.length) = j by omega]
        simpa using h0
  · rw [if_neg e]
    rcases Nat.lt_or_gt_of_ne e with e | e
    · rw [if_pos (by omega), List.getElem?_take, if_pos (by omega)]
      simpa using h0
    · rw [if_neg (by omega), if_neg (by omega), List.getElem?_drop, show 64 * i + k + d.length + (64 * m + j - (64 * i + k) - d.length) = 64 * m + j by omega]
      simpa using h0

end Go.Proofs.YtnpeiibecihleaaGreatDoor

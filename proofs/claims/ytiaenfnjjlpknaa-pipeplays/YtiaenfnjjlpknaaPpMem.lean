/-
  A pipe: its bytes, its readers and writers; what each call makes of it; how it lies in memory.
-/
import Derived.Test.YtiaenfnjjlpknaaGrw
import Derived.Laws.MakeOwn
namespace Go.Proofs.Ytiaenfnjjlpknaa
open Go.RowKit

/-- A pipe: its bytes, how many read and write it. -/
structure Pp where
  s : List UInt8
  r : Nat
  t : Nat
def np0 : Pp := ⟨[], 1, 1⟩
def rdE (x : Pp) (n : Int) : Int := if x.r = 0 then 28 else if n < 0 then 1 else if x.s = [] ∧ 0 < x.t ∧ 0 < n then 30 else 0
def rdT (x : Pp) (n : Int) : List UInt8 := if rdE x n = 0 then x.s.take n.toNat else []
def rdS (x : Pp) (n : Int) : Pp := if rdE x n = 0 then ⟨x.s.drop n.toNat, x.r, x.t⟩ else x
/-- How many bytes of a text there is room for. -/
def room (x : Pp) (d : List UInt8) : Nat := min d.length (64 - x.s.length)
def wrN (x : Pp) (d : List UInt8) : Nat := if x.t = 0 then 0 else if x.r = 0 then d.length else room x d
def wrE (x : Pp) (d : List UInt8) : Int := if x.t = 0 then 28 else if x.r = 0 then 0 else if room x d = 0 ∧ d ≠ [] then 30 else 0
def wrS (x : Pp) (d : List UInt8) : Pp := if x.t = 0 ∨ x.r = 0 then x else ⟨x.s ++ d.take (room x d), x.r, x.t⟩
def joS (x : Pp) (b : Bool) : Pp := if b then ⟨x.s, x.r, x.t + 1⟩ else ⟨x.s, x.r + 1, x.t⟩
def leE (x : Pp) (b : Bool) : Int := if (if b then x.t else x.r) = 0 then 28 else 0
def leS (x : Pp) (b : Bool) : Pp := if b then ⟨x.s, x.r, x.t - 1⟩ else ⟨if x.r ≤ 1 then [] else x.s, x.r - 1, x.t⟩
/-- What every pipe keeps to. -/
structure Fit (x : Pp) : Prop where
  few : x.s.length ≤ 64
  lost : x.r = 0 → x.s = []
  rs : x.r ≤ 1000000
  ts : x.t ≤ 1000000
theorem fit0 : Fit np0 := ⟨by decide, by decide, by decide, by decide⟩
theorem Fit.rd {x : Pp} (h : Fit x) (n : Int) : Fit (rdS x n) := by
  unfold rdS
  split
  · refine ⟨?_, fun e => ?_, h.rs, h.ts⟩
    · have := h.few
      simp only [List.length_drop]
      omega
    · have := h.lost e
      simp [this]
  · exact h
theorem Fit.wr {x : Pp} (h : Fit x) (d : List UInt8) : Fit (wrS x d) := by
  unfold wrS
  split
  · exact h
  · rename_i h1
    refine ⟨?_, fun e => absurd (Or.inr e) h1, h.rs, h.ts⟩
    have := h.few
    simp only [List.length_append, List.length_take, room]
    omega
theorem Fit.jo {x : Pp} (h : Fit x) (b : Bool) (h1 : x.r < 1000000) (h2 : x.t < 1000000) : Fit (joS x b) := by
  cases b with
  | true => exact ⟨h.few, h.lost, h.rs, by show x.t + 1 ≤ _; omega⟩
  | false => exact ⟨h.few, fun e => absurd e (by show x.r + 1 ≠ 0; omega), by show x.r + 1 ≤ _; omega, h.ts⟩
theorem Fit.le {x : Pp} (h : Fit x) (b : Bool) : Fit (leS x b) := by
  cases b with
  | true => exact ⟨h.few, h.lost, h.rs, by have := h.ts; show x.t - 1 ≤ _; omega⟩
  | false =>
    refine ⟨?_, fun e => ?_, by have := h.rs; show x.r - 1 ≤ _; omega, h.ts⟩
    · show (if x.r ≤ 1 then [] else x.s).length ≤ 64
      split
      · exact Nat.zero_le _
      · exact h.few
    · have e : x.r - 1 = 0 := e
      show (if x.r ≤ 1 then [] else x.s) = []
      rw [if_pos (by omega)]

/-- The ring's cells, from f on, are the text's bytes. -/
def Ring (cs : Array Value) (f : Nat) (s : List UInt8) : Prop := ∀ i c, s[i]? = some c → cs[(f + i) % 64]? = some (.int .u8 (c.toNat : Int))
theorem Ring.drop {cs : Array Value} {f : Nat} {s : List UInt8} (h : Ring cs f s) (n : Nat) : Ring cs ((f + n) % 64) (s.drop n) := by
  intro i c hc
  rw [List.getElem?_drop] at hc
  rw [show ((f + n) % 64 + i) % 64 = (f + (n + i)) % 64 by omega]
  exact h _ c hc
theorem Ring.high {cs : Array Value} {f : Nat} {s : List UInt8} (h : Ring cs f s) {k : Nat} (hk : 64 ≤ k) (v : Value) : Ring (cs.setIfInBounds k v) f s := by
  intro i c hc
  rw [Array.getElem?_setIfInBounds_ne (by omega)]
  exact h i c hc
theorem Ring.snoc {cs : Array Value} {f : Nat} {s : List UInt8} (h : Ring cs f s) (hl : s.length < 64) (hs : cs.size = 68) (c : UInt8) : Ring (cs.setIfInBounds ((f + s.length) % 64) (.int .u8 (c.toNat : Int))) f (s ++ [c]) := by
  intro i d hd
  by_cases hi : i < s.length
  · rw [List.getElem?_append_left hi] at hd
    rw [Array.getElem?_setIfInBounds_ne (by omega)]
    exact h i d hd
  · rw [List.getElem?_append_right (by omega)] at hd
    have hi2 : i = s.length := by
      have := (List.getElem?_eq_some_iff.1 hd).1
      simp at this
      omega
    subst hi2
    simp at hd
    subst hd
    rw [Array.getElem?_setIfInBounds_self_of_lt (by omega)]

/-- The cells of a pipe at p: its first byte stands at f, m is told as their number, s are its bytes. -/
structure Rg (w : World) (p f m : Nat) (s : List UInt8) (r t : Nat) (cs : Array Value) : Prop where
  blk : Blk w p 46 cs
  size : cs.size = 68
  c64 : cs[64]? = some (.int .i64 (f : Int))
  c65 : cs[65]? = some (.int .i64 (m : Int))
  c66 : cs[66]? = some (.int .i64 (r : Int))
  c67 : cs[67]? = some (.int .i64 (t : Int))
  ring : Ring cs f s
  f64 : f < 64
structure PAt (w : World) (p : Nat) (x : Pp) : Prop where
  fit : Fit x
  lies : ∃ f cs, Rg w p f x.s.length x.s x.r x.t cs
theorem PAt.of {w : World} {p f m : Nat} {x : Pp} {cs : Array Value} (hx : Fit x) (h : Rg w p f m x.s x.r x.t cs) (e : m = x.s.length) : PAt w p x := ⟨hx, f, cs, by rw [← e]; exact h⟩
theorem Rg.grownS {w w' : World} {p f m r t : Nat} {s : List UInt8} {cs : Array Value} {S : Nat → Prop} (H : Rg w p f m s r t cs) (hg : GrownS w w' S) (hp : ¬ S p) : Rg w' p f m s r t cs :=
  ⟨H.blk.grownS hg hp, H.size, H.c64, H.c65, H.c66, H.c67, H.ring, H.f64⟩
theorem Rg.below {w w' : World} {p f m r t : Nat} {s : List UInt8} {cs : Array Value} (H : Rg w p f m s r t cs) (hb : Below w.heap.size w w') : Rg w' p f m s r t cs :=
  H.grownS (S := fun _ => False) (grownS_of_below hb) (fun e => e)
theorem PAt.grownS {w w' : World} {p : Nat} {x : Pp} {S : Nat → Prop} (H : PAt w p x) (hg : GrownS w w' S) (hp : ¬ S p) : PAt w' p x := by
  obtain ⟨h1, f, cs, h2⟩ := H
  exact ⟨h1, f, cs, h2.grownS hg hp⟩
theorem PAt.below {w w' : World} {p : Nat} {x : Pp} (H : PAt w p x) (hb : Below w.heap.size w w') : PAt w' p x :=
  H.grownS (S := fun _ => False) (grownS_of_below hb) (fun e => e)
theorem PAt.lt {w : World} {p : Nat} {x : Pp} (H : PAt w p x) : p < w.heap.size := by
  obtain ⟨h1, f, cs, h2⟩ := H
  exact h2.blk.lt
/-- A number of the pipe's is set. -/
theorem Rg.set64 {w : World} {p f m r t : Nat} {s s' : List UInt8} {cs : Array Value} (H : Rg w p f m s r t cs) {f' : Nat} (h : f' < 64) (hr : Ring cs f' s') : Rg (w.setCell ⟨p, 64, none⟩ (.int .i64 (f' : Int))) p f' m s' r t (cs.setIfInBounds 64 (.int .i64 (f' : Int))) :=
  ⟨H.blk.set 64 _, by simpa using H.size, Array.getElem?_setIfInBounds_self_of_lt (by rw [H.size]; decide), by rw [Array.getElem?_setIfInBounds_ne (by decide)]; exact H.c65, by rw [Array.getElem?_setIfInBounds_ne (by decide)]; exact H.c66, by rw [Array.getElem?_setIfInBounds_ne (by decide)]; exact H.c67, hr.high (by decide) _, h⟩
theorem Rg.set65 {w : World} {p f m r t : Nat} {s : List UInt8} {cs : Array Value} (H : Rg w p f m s r t cs) (m' : Nat) : Rg (w.setCell ⟨p, 65, none⟩ (.int .i64 (m' : Int))) p f m' s r t (cs.setIfInBounds 65 (.int .i64 (m' : Int))) :=
  ⟨H.blk.set 65 _, by simpa using H.size, by rw [Array.getElem?_setIfInBounds_ne (by decide)]; exact H.c64, Array.getElem?_setIfInBounds_self_of_lt (by rw [H.size]; decide), by rw [Array.getElem?_setIfInBounds_ne (by decide)]; exact H.c66, by rw [Array.getElem?_setIfInBounds_ne (by decide)]; exact H.c67, H.ring.high (by decide) _, H.f64⟩
theorem Rg.set66 {w : World} {p f m r t : Nat} {s : List UInt8} {cs : Array Value} (H : Rg w p f m s r t cs) (r' : Nat) : Rg (w.setCell ⟨p, 66, none⟩ (.int .i64 (r' : Int))) p f m s r' t (cs.setIfInBounds 66 (.int .i64 (r' : Int))) :=
  ⟨H.blk.set 66 _, by simpa using H.size, by rw [Array.getElem?_setIfInBounds_ne (by decide)]; exact H.c64, by rw [Array.getElem?_setIfInBounds_ne (by decide)]; exact H.c65, Array.getElem?_setIfInBounds_self_of_lt (by rw [H.size]; decide), by rw [Array.getElem?_setIfInBounds_ne (by decide)]; exact H.c67, H.ring.high (by decide) _, H.f64⟩
theorem Rg.set67 {w : World} {p f m r t : Nat} {s : List UInt8} {cs : Array Value} (H : Rg w p f m s r t cs) (t' : Nat) : Rg (w.setCell ⟨p, 67, none⟩ (.int .i64 (t' : Int))) p f m s r t' (cs.setIfInBounds 67 (.int .i64 (t' : Int))) :=
  ⟨H.blk.set 67 _, by simpa using H.size, by rw [Array.getElem?_setIfInBounds_ne (by decide)]; exact H.c64, by rw [Array.getElem?_setIfInBounds_ne (by decide)]; exact H.c65, by rw [Array.getElem?_setIfInBounds_ne (by decide)]; exact H.c66, Array.getElem?_setIfInBounds_self_of_lt (by rw [H.size]; decide), H.ring.high (by decide) _, H.f64⟩
theorem Rg.setR {w : World} {p f m r t : Nat} {s : List UInt8} {cs : Array Value} (H : Rg w p f m s r t cs) (hl : s.length < 64) (c : UInt8) {z : Nat} (hz : z = (f + s.length) % 64) : Rg (w.setCell ⟨p, z, none⟩ (.int .u8 (c.toNat : Int))) p f m (s ++ [c]) r t (cs.setIfInBounds z (.int .u8 (c.toNat : Int))) := by
  subst hz
  exact ⟨H.blk.set _ _, by simpa using H.size, by rw [Array.getElem?_setIfInBounds_ne (by omega)]; exact H.c64, by rw [Array.getElem?_setIfInBounds_ne (by omega)]; exact H.c65, by rw [Array.getElem?_setIfInBounds_ne (by omega)]; exact H.c66, by rw [Array.getElem?_setIfInBounds_ne (by omega)]; exact H.c67, H.ring.snoc hl H.size c, H.f64⟩
theorem Rg.at {w : World} {p f m r t : Nat} {s : List UInt8} {cs : Array Value} (H : Rg w p f m s r t cs) {k z : Nat} {c : UInt8} (hk : s[k]? = some c) (hz : z = (f + k) % 64) : w.cell? ⟨p, z, none⟩ = some (.int .u8 (c.toNat : Int)) := by
  subst hz
  exact H.blk.cell _ (H.ring k c hk)
theorem own_set (w : World) (p i : Nat) (v : Value) : GrownS w (w.setCell ⟨p, i, none⟩ v) (fun k => k = p) := GrownS.of (grown_setCell w ⟨p, i, none⟩ v) (fun k e => by simpa using e)

theorem BA_add (a b : List UInt8) : BA a ++ BA b = BA (a ++ b) := by
  apply ByteArray.ext
  apply Array.ext'
  simp [BA]
theorem ext_take (x : List UInt8) (k : Nat) : (BA x).extract 0 k = BA (x.take k) := by
  have := extract_take (BA x) 0 k
  rwa [Nat.zero_add, BA_list, List.drop_zero] at this
theorem ext_drop (x : List UInt8) (k n : Nat) (h : x.length = n) : (BA x).extract k n = BA (x.drop k) := by
  have := extract_end (BA x) k
  rwa [BA_size, h, BA_list] at this
theorem add_o (g a k : Nat) : ((⟨g, a, none⟩ : Addr).add k) = ⟨g, a + k, none⟩ := by
  by_cases h : k = 0
  · subst h; simp [Addr.add]
  · simp [Addr.add, h]
theorem info2 {t : TypeId} {z : Option Value} {a c : Nat} (h : (Try.prog.info? t).map (fun i => (i.zero, i.size, i.bytes)) = some (z, a, c)) : ∃ i, Try.prog.info? t = some i ∧ i.zero = z ∧ i.size = a ∧ i.bytes = c := by
  cases hi : Try.prog.info? t with
  | none => rw [hi] at h; cases h
  | some i =>
    rw [hi] at h
    simp at h
    exact ⟨i, rfl, h.1, h.2.1, h.2.2⟩
theorem made_at (z : Array Value) (m k : Nat) (hk : k < m) {v : Value} (hz : ∀ j, j < z.size → z[j]? = some v) (hp : 0 < z.size) : (madeCells z m)[k]? = some v := by
  unfold madeCells
  have h1 : k % z.size < z.size := Nat.mod_lt _ hp
  have h2 := hz _ h1
  rw [Array.getElem?_eq_getElem h1] at h2
  simp at h2
  simp [hk, h1, h2]
/-- 'make([]byte, n)': a new block of n zeros. -/
theorem mk_run (n : Nat) (hn : n ≤ 8192) : ∃ cs : Array Value, cs.size = n ∧ (∀ j, j < n → cs[j]? = some (.int .u8 0)) ∧ ∀ u : World, (Instr.makeSlice 47 (.int .i64 (n : Int)) (.int .i64 (n : Int))).run Try.prog u = .ok (.slice (some ⟨u.heap.size, 0, none⟩) n n) (u.alloc (.cells cs 5)) := by
  obtain ⟨i, hi, hz, hs, hb⟩ := info2 (t := 5) (z := some (.int .u8 0)) (a := 1) (c := 1) (by kernel_rfl)
  refine ⟨madeCells #[.int .u8 0] n, size_madeCells _ _, fun j hj => made_at _ _ _ hj (v := .int .u8 0) (fun m hm => by
      match m, hm with
      | 0, _ => rfl) (by decide), fun u => ?_⟩
  have := run_make (P := Try.prog) u 47 5 i (.int .u8 0) (by kernel_rfl) hi hz .i64 .i64 n n (by omega) (Int.le_refl _) (by rw [hb]; omega) (by omega)
  rw [hs] at this
  simpa [Value.cells] using this
/-- 'string(b)' of a row of bytes. -/
theorem cv_run (W : World) (g n : Nat) (cs : Array Value) (l : List UInt8) (hl : l.length = n) (hb : Blk W g 5 cs) (h : ∀ (j : Nat) (c : UInt8), l[j]? = some c → cs[j]? = some (.int .u8 (c.toNat : Int))) : (convert 47 9 (.slice (some ⟨g, 0, none⟩) n n)).run Try.prog W = .ok (.string (BA l)) W := by
  have := run_convert_bytes_back (P := Try.prog) W 47 9 5 ⟨g, 0, none⟩ n l (by kernel_rfl) (by kernel_rfl) (by kernel_rfl) (fun j hj => by
      rw [add_o, Nat.zero_add]
      exact hb.cell j (h j _ (List.getElem?_eq_getElem hj)))
  rwa [hl] at this

end Go.Proofs.Ytiaenfnjjlpknaa

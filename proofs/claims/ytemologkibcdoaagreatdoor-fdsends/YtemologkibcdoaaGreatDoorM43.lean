/-
  A pipe: its bytes, its readers and writers; what each call makes of it; how it lies in memory.
  place, take, put, side.
  A pipe's calls: New, Read, Write, Join, Leave, Len, Users.
-/
import Derived.Test.YtemologkibcdoaaGreatDoorM01
import Derived.Laws.MakeOwn
import Derived.Deep.LoopGhost
import Derived.Deep.RegionHeld3
import Derived.BigQuiet

/- A pipe: its bytes, its readers and writers; what each call makes of it; how it lies in memory. -/
namespace Go.Proofs.YtemologkibcdoaaGreatDoor.Pi
open Go.RowKit

/-- A pipe: its bytes, how many read and write it. -/
structure Pp where
  s : List UInt8
  r : Nat
  t : Nat
def np0 : Pp := ⟨[], 1, 1⟩
def rdE (x : Pp) (n : Int) : Int := if x.r = 0 then 28 else if n < 0 then 1 else if x.s = [] ∧ 0 < x.t ∧ 0 < n then 30 else 0
def rdT (x : Pp) (n : Int) : List UInt8 := if rdE x n = 0 then x.s.take n.toNat else []
def rdS (x : Pp) (n : Int) : Pp := if rdE x n = 0 then ⟨x.s.drop n.toNat, x.r, x.t⟩ else x
/-- How many bytes of a text there is room for. -/
def room (x : Pp) (d : List UInt8) : Nat := min d.length (64 - x.s.length)
def wrN (x : Pp) (d : List UInt8) : Nat := if x.t = 0 then 0 else if x.r = 0 then d.length else room x d
def wrE (x : Pp) (d : List UInt8) : Int := if x.t = 0 then 28 else if x.r = 0 then 0 else if room x d = 0 ∧ d ≠ [] then 30 else 0
def wrS (x : Pp) (d : List UInt8) : Pp := if x.t = 0 ∨ x.r = 0 then x else ⟨x.s ++ d.take (room x d), x.r, x.t⟩
def joS (x : Pp) (b : Bool) : Pp := if b then ⟨x.s, x.r, x.t + 1⟩ else ⟨x.s, x.r + 1, x.t⟩
def leE (x : Pp) (b : Bool) : Int := if (if b then x.t else x.r) = 0 then 28 else 0
def leS (x : Pp) (b : Bool) : Pp := if b then ⟨x.s, x.r, x.t - 1⟩ else ⟨if x.r ≤ 1 then [] else x.s, x.r - 1, x.t⟩
/-- What every pipe keeps to. -/
structure Fit (x : Pp) : Prop where
  few : x.s.length ≤ 64
  lost : x.r = 0 → x.s = []
  rs : x.r ≤ 1000000
  ts : x.t ≤ 1000000
theorem fit0 : Fit np0 := ⟨by decide, by decide, by decide, by decide⟩
theorem Fit.rd {x : Pp} (h : Fit x) (n : Int) : Fit (rdS x n) := by
  unfold rdS
  split
  · refine ⟨?_, fun e => ?_, h.rs, h.ts⟩
    · have := h.few
      simp only [List.length_drop]
      omega
    · have := h.lost e
      simp [this]
  · exact h
theorem Fit.wr {x : Pp} (h : Fit x) (d : List UInt8) : Fit (wrS x d) := by
  unfold wrS
  split
  · exact h
  · rename_i h1
    refine ⟨?_, fun e => absurd (Or.inr e) h1, h.rs, h.ts⟩
    have := h.few
    simp only [List.length_append, List.length_take, room]
    omega
theorem Fit.jo {x : Pp} (h : Fit x) (b : Bool) (h1 : x.r < 1000000) (h2 : x.t < 1000000) : Fit (joS x b) := by
  cases b with
  | true => exact ⟨h.few, h.lost, h.rs, by show x.t + 1 ≤ _; omega⟩
  | false => exact ⟨h.few, fun e => absurd e (by show x.r + 1 ≠ 0; omega), by show x.r + 1 ≤ _; omega, h.ts⟩
theorem Fit.le {x : Pp} (h : Fit x) (b : Bool) : Fit (leS x b) := by
  cases b with
  | true => exact ⟨h.few, h.lost, h.rs, by have := h.ts; show x.t - 1 ≤ _; omega⟩
  | false =>
    refine ⟨?_, fun e => ?_, by have := h.rs; show x.r - 1 ≤ _; omega, h.ts⟩
    · show (if x.r ≤ 1 then [] else x.s).length ≤ 64
      split
      · exact Nat.zero_le _
      · exact h.few
    · have e : x.r - 1 = 0 := e
      show (if x.r ≤ 1 then [] else x.s) = []
      rw [if_pos (by omega)]

/-- The ring's cells, from f on, are the text's bytes. -/
def Ring (cs : Array Value) (f : Nat) (s : List UInt8) : Prop := ∀ i c, s[i]? = some c → cs[(f + i) % 64]? = some (.int .u8 (c.toNat : Int))
theorem Ring.drop {cs : Array Value} {f : Nat} {s : List UInt8} (h : Ring cs f s) (n : Nat) : Ring cs ((f + n) % 64) (s.drop n) := by
  intro i c hc
  rw [List.getElem?_drop] at hc
  rw [show ((f + n) % 64 + i) % 64 = (f + (n + i)) % 64 by omega]
  exact h _ c hc
theorem Ring.high {cs : Array Value} {f : Nat} {s : List UInt8} (h : Ring cs f s) {k : Nat} (hk : 64 ≤ k) (v : Value) : Ring (cs.setIfInBounds k v) f s := by
  intro i c hc
  rw [Array.getElem?_setIfInBounds_ne (by omega)]
  exact h i c hc
theorem Ring.snoc {cs : Array Value} {f : Nat} {s : List UInt8} (h : Ring cs f s) (hl : s.length < 64) (hs : cs.size = 68) (c : UInt8) : Ring (cs.setIfInBounds ((f + s.length) % 64) (.int .u8 (c.toNat : Int))) f (s ++ [c]) := by
  intro i d hd
  by_cases hi : i < s.length
  · rw [List.getElem?_append_left hi] at hd
    rw [Array.getElem?_setIfInBounds_ne (by omega)]
    exact h i d hd
  · rw [List.getElem?_append_right (by omega)] at hd
    have hi2 : i = s.length := by
      have := (List.getElem?_eq_some_iff.1 hd).1
      simp at this
      omega
    subst hi2
    simp at hd
    subst hd
    rw [Array.getElem?_setIfInBounds_self_of_lt (by omega)]

/-- The cells of a pipe at p: its first byte stands at f, m is told as their number, s are its bytes. -/
structure Rg (w : World) (p f m : Nat) (s : List UInt8) (r t : Nat) (cs : Array Value) : Prop where
  blk : Blk w p 158 cs
  size : cs.size = 68
  c64 : cs[64]? = some (.int .i64 (f : Int))
  c65 : cs[65]? = some (.int .i64 (m : Int))
  c66 : cs[66]? = some (.int .i64 (r : Int))
  c67 : cs[67]? = some (.int .i64 (t : Int))
  ring : Ring cs f s
  f64 : f < 64
structure PAt (w : World) (p : Nat) (x : Pp) : Prop where
  fit : Fit x
  lies : ∃ f cs, Rg w p f x.s.length x.s x.r x.t cs
theorem PAt.of {w : World} {p f m : Nat} {x : Pp} {cs : Array Value} (hx : Fit x) (h : Rg w p f m x.s x.r x.t cs) (e : m = x.s.length) : PAt w p x := ⟨hx, f, cs, by rw [← e]; exact h⟩
theorem Rg.grownS {w w' : World} {p f m r t : Nat} {s : List UInt8} {cs : Array Value} {S : Nat → Prop} (H : Rg w p f m s r t cs) (hg : GrownS w w' S) (hp : ¬ S p) : Rg w' p f m s r t cs :=
  ⟨H.blk.grownS hg hp, H.size, H.c64, H.c65, H.c66, H.c67, H.ring, H.f64⟩
theorem Rg.below {w w' : World} {p f m r t : Nat} {s : List UInt8} {cs : Array Value} (H : Rg w p f m s r t cs) (hb : Below w.heap.size w w') : Rg w' p f m s r t cs :=
  H.grownS (S := fun _ => False) (grownS_of_below hb) (fun e => e)
theorem PAt.grownS {w w' : World} {p : Nat} {x : Pp} {S : Nat → Prop} (H : PAt w p x) (hg : GrownS w w' S) (hp : ¬ S p) : PAt w' p x := by
  obtain ⟨h1, f, cs, h2⟩ := H
  exact ⟨h1, f, cs, h2.grownS hg hp⟩
theorem PAt.below {w w' : World} {p : Nat} {x : Pp} (H : PAt w p x) (hb : Below w.heap.size w w') : PAt w' p x :=
  H.grownS (S := fun _ => False) (grownS_of_below hb) (fun e => e)
theorem PAt.lt {w : World} {p : Nat} {x : Pp} (H : PAt w p x) : p < w.heap.size := by
  obtain ⟨h1, f, cs, h2⟩ := H
  exact h2.blk.lt
/-- A number of the pipe's is set. -/
theorem Rg.set64 {w : World} {p f m r t : Nat} {s s' : List UInt8} {cs : Array Value} (H : Rg w p f m s r t cs) {f' : Nat} (h : f' < 64) (hr : Ring cs f' s') : Rg (w.setCell ⟨p, 64, none⟩ (.int .i64 (f' : Int))) p f' m s' r t (cs.setIfInBounds 64 (.int .i64 (f' : Int))) :=
  ⟨H.blk.set 64 _, by simpa using H.size, Array.getElem?_setIfInBounds_self_of_lt (by rw [H.size]; decide), by rw [Array.getElem?_setIfInBounds_ne (by decide)]; exact H.c65, by rw [Array.getElem?_setIfInBounds_ne (by decide)]; exact H.c66, by rw [Array.getElem?_setIfInBounds_ne (by decide)]; exact H.c67, hr.high (by decide) _, h⟩
theorem Rg.set65 {w : World} {p f m r t : Nat} {s : List UInt8} {cs : Array Value} (H : Rg w p f m s r t cs) (m' : Nat) : Rg (w.setCell ⟨p, 65, none⟩ (.int .i64 (m' : Int))) p f m' s r t (cs.setIfInBounds 65 (.int .i64 (m' : Int))) :=
  ⟨H.blk.set 65 _, by simpa using H.size, by rw [Array.getElem?_setIfInBounds_ne (by decide)]; exact H.c64, Array.getElem?_setIfInBounds_self_of_lt (by rw [H.size]; decide), by rw [Array.getElem?_setIfInBounds_ne (by decide)]; exact H.c66, by rw [Array.getElem?_setIfInBounds_ne (by decide)]; exact H.c67, H.ring.high (by decide) _, H.f64⟩
theorem Rg.set66 {w : World} {p f m r t : Nat} {s : List UInt8} {cs : Array Value} (H : Rg w p f m s r t cs) (r' : Nat) : Rg (w.setCell ⟨p, 66, none⟩ (.int .i64 (r' : Int))) p f m s r' t (cs.setIfInBounds 66 (.int .i64 (r' : Int))) :=
  ⟨H.blk.set 66 _, by simpa using H.size, by rw [Array.getElem?_setIfInBounds_ne (by decide)]; exact H.c64, by rw [Array.getElem?_setIfInBounds_ne (by decide)]; exact H.c65, Array.getElem?_setIfInBounds_self_of_lt (by rw [H.size]; decide), by rw [Array.getElem?_setIfInBounds_ne (by decide)]; exact H.c67, H.ring.high (by decide) _, H.f64⟩
theorem Rg.set67 {w : World} {p f m r t : Nat} {s : List UInt8} {cs : Array Value} (H : Rg w p f m s r t cs) (t' : Nat) : Rg (w.setCell ⟨p, 67, none⟩ (.int .i64 (t' : Int))) p f m s r t' (cs.setIfInBounds 67 (.int .i64 (t' : Int))) :=
  ⟨H.blk.set 67 _, by simpa using H.size, by rw [Array.getElem?_setIfInBounds_ne (by decide)]; exact H.c64, by rw [Array.getElem?_setIfInBounds_ne (by decide)]; exact H.c65, by rw [Array.getElem?_setIfInBounds_ne (by decide)]; exact H.c66, Array.getElem?_setIfInBounds_self_of_lt (by rw [H.size]; decide), H.ring.high (by decide) _, H.f64⟩
theorem Rg.setR {w : World} {p f m r t : Nat} {s : List UInt8} {cs : Array Value} (H : Rg w p f m s r t cs) (hl : s.length < 64) (c : UInt8) {z : Nat} (hz : z = (f + s.length) % 64) : Rg (w.setCell ⟨p, z, none⟩ (.int .u8 (c.toNat : Int))) p f m (s ++ [c]) r t (cs.setIfInBounds z (.int .u8 (c.toNat : Int))) := by
  subst hz
  exact ⟨H.blk.set _ _, by simpa using H.size, by rw [Array.getElem?_setIfInBounds_ne (by omega)]; exact H.c64, by rw [Array.getElem?_setIfInBounds_ne (by omega)]; exact H.c65, by rw [Array.getElem?_setIfInBounds_ne (by omega)]; exact H.c66, by rw [Array.getElem?_setIfInBounds_ne (by omega)]; exact H.c67, H.ring.snoc hl H.size c, H.f64⟩
theorem Rg.at {w : World} {p f m r t : Nat} {s : List UInt8} {cs : Array Value} (H : Rg w p f m s r t cs) {k z : Nat} {c : UInt8} (hk : s[k]? = some c) (hz : z = (f + k) % 64) : w.cell? ⟨p, z, none⟩ = some (.int .u8 (c.toNat : Int)) := by
  subst hz
  exact H.blk.cell _ (H.ring k c hk)
theorem own_set (w : World) (p i : Nat) (v : Value) : GrownS w (w.setCell ⟨p, i, none⟩ v) (fun k => k = p) := GrownS.of (grown_setCell w ⟨p, i, none⟩ v) (fun k e => by simpa using e)

theorem BA_add (a b : List UInt8) : BA a ++ BA b = BA (a ++ b) := by
  apply ByteArray.ext
  apply Array.ext'
  simp [BA]
theorem ext_take (x : List UInt8) (k : Nat) : (BA x).extract 0 k = BA (x.take k) := by
  have := extract_take (BA x) 0 k
  rwa [Nat.zero_add, BA_list, List.drop_zero] at this
theorem ext_drop (x : List UInt8) (k n : Nat) (h : x.length = n) : (BA x).extract k n = BA (x.drop k) := by
  have := extract_end (BA x) k
  rwa [BA_size, h, BA_list] at this
theorem add_o (g a k : Nat) : ((⟨g, a, none⟩ : Addr).add k) = ⟨g, a + k, none⟩ := by
  by_cases h : k = 0
  · subst h; simp [Addr.add]
  · simp [Addr.add, h]
theorem info2 {t : TypeId} {z : Option Value} {a c : Nat} (h : (Tryz.prog.info? t).map (fun i => (i.zero, i.size, i.bytes)) = some (z, a, c)) : ∃ i, Tryz.prog.info? t = some i ∧ i.zero = z ∧ i.size = a ∧ i.bytes = c := by
  cases hi : Tryz.prog.info? t with
  | none => rw [hi] at h; cases h
  | some i =>
    rw [hi] at h
    simp at h
    exact ⟨i, rfl, h.1, h.2.1, h.2.2⟩
theorem made_at (z : Array Value) (m k : Nat) (hk : k < m) {v : Value} (hz : ∀ j, j < z.size → z[j]? = some v) (hp : 0 < z.size) : (madeCells z m)[k]? = some v := by
  unfold madeCells
  have h1 : k % z.size < z.size := Nat.mod_lt _ hp
  have h2 := hz _ h1
  rw [Array.getElem?_eq_getElem h1] at h2
  simp at h2
  simp [hk, h1, h2]
/-- 'make([]byte, n)': a new block of n zeros. -/
theorem mk_run (n : Nat) (hn : n ≤ 8192) : ∃ cs : Array Value, cs.size = n ∧ (∀ j, j < n → cs[j]? = some (.int .u8 0)) ∧ ∀ u : World, (Instr.makeSlice 109 (.int .i64 (n : Int)) (.int .i64 (n : Int))).run Tryz.prog u = .ok (.slice (some ⟨u.heap.size, 0, none⟩) n n) (u.alloc (.cells cs 5)) := by
  obtain ⟨i, hi, hz, hs, hb⟩ := info2 (t := 5) (z := some (.int .u8 0)) (a := 1) (c := 1) (by kernel_rfl)
  refine ⟨madeCells #[.int .u8 0] n, size_madeCells _ _, fun j hj => made_at _ _ _ hj (v := .int .u8 0) (fun m hm => by
      match m, hm with
      | 0, _ => rfl) (by decide), fun u => ?_⟩
  have := run_make (P := Tryz.prog) u 109 5 i (.int .u8 0) (by kernel_rfl) hi hz .i64 .i64 n n (by omega) (Int.le_refl _) (by rw [hb]; omega) (by omega)
  rw [hs] at this
  simpa [Value.cells] using this
/-- 'string(b)' of a row of bytes. -/
theorem cv_run (W : World) (g n : Nat) (cs : Array Value) (l : List UInt8) (hl : l.length = n) (hb : Blk W g 5 cs) (h : ∀ (j : Nat) (c : UInt8), l[j]? = some c → cs[j]? = some (.int .u8 (c.toNat : Int))) : (convert 109 9 (.slice (some ⟨g, 0, none⟩) n n)).run Tryz.prog W = .ok (.string (BA l)) W := by
  have := run_convert_bytes_back (P := Tryz.prog) W 109 9 5 ⟨g, 0, none⟩ n l (by kernel_rfl) (by kernel_rfl) (by kernel_rfl) (fun j hj => by
      rw [add_o, Nat.zero_add]
      exact hb.cell j (h j _ (List.getElem?_eq_getElem hj)))
  rwa [hl] at this

end Go.Proofs.YtemologkibcdoaaGreatDoor.Pi

/- place, take, put, side. -/
namespace Go.Proofs.YtemologkibcdoaaGreatDoor.Pi
open Go.RowKit

set_option maxRecDepth 20000 in
theorem place_any {w : World} {p f a z : Nat} (h : w.cell? ⟨p, 64, none⟩ = some (.int .i64 (f : Int))) (hf : f < 64) (ha : a ≤ 200) (hz : z = (f + a) % 64) : Calls Tryz.prog 244 #[.pointer (some ⟨p, 0, none⟩), .int .i64 (a : Int)] w fun e w' => e = .returned (.int .i64 (z : Int)) ∧ w' = w := by
  have h1 : IntKind.i64.wrap ((f : Int) + (a : Int)) = ((f + a : Nat) : Int) := by rw [IntKind.wrap_i64]; omega
  have h2 : ((f + a : Nat) : Int).tmod 64 = (z : Int) := by
    subst hz
    exact (Int.ofNat_tmod (f + a) 64).symm
  obtain ⟨y, hy⟩ : ∃ y, y = f + a := ⟨_, rfl⟩
  rw [← hy] at h1 h2
  clear hy hf ha hz
  go_enter Tryz.func244, Tryz.ntmps244
  go_wp2
  go_ret
  exact ⟨rfl, rfl⟩

/-- How far take is: k bytes are copied. -/
structure TkS (w W : World) (p f g n k : Nat) (s : List UInt8) (r t : Nat) (cs bs : Array Value) : Prop where
  rg : Rg W p f s.length s r t cs
  blk : Blk W g 5 bs
  size : bs.size = n
  each : ∀ (j : Nat) (c : UInt8), j < k → s[j]? = some c → bs[j]? = some (.int .u8 (c.toNat : Int))
  bel : Below w.heap.size w W
  far : p < w.heap.size ∧ w.heap.size ≤ g
theorem TkS.below {w W W' : World} {p f g n k r t : Nat} {s : List UInt8} {cs bs : Array Value} (H : TkS w W p f g n k s r t cs bs) (hb : Below W.heap.size W W') : TkS w W' p f g n k s r t cs bs :=
  ⟨H.rg.below hb, H.blk.below hb H.blk.lt, H.size, H.each, H.bel.trans (hb.mono H.bel.size), H.far⟩
theorem TkS.step {w W : World} {p f g n k r t : Nat} {s : List UInt8} {cs bs : Array Value} (H : TkS w W p f g n k s r t cs bs) (hk : k < n) {c : UInt8} (hc : s[k]? = some c) : TkS w (W.setCell ⟨g, k, none⟩ (.int .u8 (c.toNat : Int))) p f g n (k + 1) s r t cs (bs.setIfInBounds k (.int .u8 (c.toNat : Int))) := by
  have hg := own_set W g k (.int .u8 (c.toNat : Int))
  refine ⟨H.rg.grownS hg (by have := H.far; omega), H.blk.set _ _, by simpa using H.size, fun j d hj hd => ?_, H.bel.trans (hg.below H.bel.size (fun q e => by rw [e]; exact H.far.2)), H.far⟩
  by_cases e : j = k
  · subst e
    rw [hc] at hd
    cases hd
    rw [Array.getElem?_setIfInBounds_self_of_lt (by rw [H.size]; exact hk)]
  · rw [Array.getElem?_setIfInBounds_ne (by omega)]
    exact H.each j d (by omega) hd

set_option maxRecDepth 20000 in
set_option maxHeartbeats 1000000 in
theorem take_any (w : World) (p : Nat) (x : Pp) (n : Nat) (H : PAt w p x) (hn : n ≤ x.s.length) : Calls Tryz.prog 243 #[.pointer (some ⟨p, 0, none⟩), .int .i64 (n : Int)] w fun e w' => e = .returned (.string (BA (x.s.take n))) ∧ PAt w' p ⟨x.s.drop n, x.r, x.t⟩ ∧ GrownS w w' (fun k => k = p) := by
  obtain ⟨⟨h64, hlost, hr, ht⟩, f, cs, HR⟩ := H
  obtain ⟨s, r, t⟩ := x
  simp only at *
  obtain ⟨zs, hz1, hz2, mk⟩ := mk_run n (by omega)
  have mk1 := mk w
  have HS : Hid (TkS w (w.alloc (.cells zs 5)) p f w.heap.size n 0 s r t cs zs) := hide ⟨HR.below ((Below.refl _ _).alloc (Nat.le_refl _) _), Blk.new _ _ _, hz1, fun j c hj => by omega, (Below.refl _ _).alloc (Nat.le_refl _) _, HR.blk.lt, Nat.le_refl _⟩
  have hf := HR.f64
  obtain ⟨g, hg⟩ : ∃ g, g = w.heap.size := ⟨_, rfl⟩
  obtain ⟨W0, hW0⟩ : ∃ W0, W0 = w.alloc (.cells zs 5) := ⟨_, rfl⟩
  rw [← hg, ← hW0] at mk1 HS
  obtain ⟨m, hm⟩ : ∃ m, m = s.length := ⟨_, rfl⟩
  rw [← hm] at hn h64
  have HM := hide hm
  have HG := hide hg
  have HL := hide hlost
  obtain ⟨T, hT'⟩ : ∃ T, T = BA (s.take n) := ⟨_, rfl⟩
  rw [← hT']
  have HTT := hide hT'
  clear mk HR hz1 hz2 hg hW0 hm hlost hT'
  go_enter Tryz.func243, Tryz.ntmps243
  go_wp2_with fail
  go_loopw [10] (fun i wr => ∃ (k : Nat) (bs : Array Value), i = .int .i64 (k : Int) ∧ k ≤ n ∧ Hid (TkS w wr p f g n k s r t cs bs)) (fun i _ => n - (intOf i).toNat)
  case atStart => exact ⟨0, zs, rfl, Nat.zero_le _, HS⟩
  case round =>
    obtain ⟨k, bs, rfl, hk, HT⟩ := hrel
    by_cases hlt : k < n
    · obtain ⟨c, hc⟩ : ∃ c, s[k]? = some c := ⟨_, List.getElem?_eq_getElem (by have := unhide HM; omega)⟩
      obtain ⟨z, hz⟩ : ∃ z, z = (f + k) % 64 := ⟨_, rfl⟩
      have hz1 : (z : Int) < 64 := by omega
      have hz0 : (0 : Int) ≤ (z : Int) := by omega
      have hk1 : (k : Int) < (n : Int) := by omega
      have hk0 : (0 : Int) ≤ (k : Int) := by omega
      obtain ⟨vk, hvk⟩ : ∃ vk, bs[k]? = some vk := ⟨_, Array.getElem?_eq_getElem (by rw [(unhide HT).size]; exact hlt)⟩
      have HP : Hid (∀ W, Below wr.heap.size wr W → Calls Tryz.prog 244 #[.pointer (some ⟨p, 0, none⟩), .int .i64 (k : Int)] W fun e w' => e = .returned (.int .i64 (z : Int)) ∧ w'.cell? ⟨p, z, none⟩ = some (.int .u8 (c.toNat : Int)) ∧ (w'.setCell ⟨g, k, none⟩ (.int .u8 (c.toNat : Int))).cell? ⟨p, z, none⟩ = some (.int .u8 (c.toNat : Int)) ∧ w'.cell? ⟨g, k, none⟩ = some vk ∧ w'.frozen? ⟨g, k, none⟩ = false ∧ Hid (TkS w (w'.setCell ⟨g, k, none⟩ (.int .u8 (c.toNat : Int))) p f g n (k + 1) s r t cs (bs.setIfInBounds k (.int .u8 (c.toNat : Int))))) := hide (fun W hb => by
        have ht := (unhide HT).below hb
        refine (place_any (ht.rg.blk.cell _ ht.rg.c64) hf (by omega) hz).mono ?_
        rintro e w' ⟨h1, h2⟩
        subst h2
        have ht2 := ht.step hlt hc
        exact ⟨h1, ht.rg.at hc hz, ht2.rg.at hc hz, ht.blk.cell k hvk, ht.blk.frozen k, hide ht2⟩)
      have y0 := (unhide HT).rg.at hc hz
      clear HT HS hc hz hvk
      go_wp2_with fail
      go_region_held3 (fun w' => w'.cell? ⟨p, z, none⟩ = some (.int .u8 (c.toNat : Int))) (go_keep) (first
        | (go_at_call 244
           refine (unhide HP _ (by first | exact Below.refl _ _ | exact below_drew _ _)).mono ?_
           rintro e w5 ⟨rfl, y1, y2, y4, y3, HT5⟩))
      go_wp2
      go_roundw
      case rel => exact ⟨k + 1, _, by go_num, by omega, HT5⟩
      case measure => simp [intOf]; omega
    · have HE : Hid (k = n) := hide (by omega)
      have hk1 : ¬ (k : Int) < (n : Int) := by omega
      obtain ⟨z, hz⟩ : ∃ z, z = (f + n) % 64 := ⟨_, rfl⟩
      obtain ⟨d, hd⟩ : ∃ d, d = m - n := ⟨_, rfl⟩
      have hwr : IntKind.i64.wrap ((m : Int) - (n : Int)) = (d : Int) := by rw [IntKind.wrap_i64]; omega
      have hT := unhide HT
      have HP := hide (place_any (hT.rg.blk.cell _ hT.rg.c64) hf (by omega) hz)
      have r1 := hT.rg.set64 (f' := z) (by omega) (show Ring cs z (s.drop n) by rw [hz]; exact hT.rg.ring.drop n)
      have r2 := r1.set65 d
      have c65 := r1.blk.cell _ r1.c65
      rw [← unhide HM] at c65
      have f64 := hT.rg.blk.frozen 64
      have c64 := hT.rg.blk.cell _ hT.rg.c64
      have f65 := r1.blk.frozen 65
      have g2 := (own_set wr p 64 (.int .i64 (z : Int))).trans (own_set (wr.setCell ⟨p, 64, none⟩ (.int .i64 (z : Int))) p 65 (.int .i64 (d : Int)))
      have hne : ¬ g = p := by have := hT.far; omega
      have hcv := cv_run _ g n _ (s.take n) (by rw [List.length_take]; have := unhide HM; omega) (hT.blk.grownS g2 hne) (fun j c hc => by
        have hj := (List.getElem?_eq_some_iff.1 hc).1
        rw [List.length_take] at hj
        rw [List.getElem?_take, if_pos (by omega)] at hc
        exact hT.each j c (by have := unhide HE; omega) hc)
      have HR : Hid (PAt ((wr.setCell ⟨p, 64, none⟩ (.int .i64 (z : Int))).setCell ⟨p, 65, none⟩ (.int .i64 (d : Int))) p ⟨s.drop n, r, t⟩ ∧ GrownS w ((wr.setCell ⟨p, 64, none⟩ (.int .i64 (z : Int))).setCell ⟨p, 65, none⟩ (.int .i64 (d : Int))) (fun k => k = p)) := hide (by
        have e : d = (s.drop n).length := by rw [List.length_drop, ← unhide HM, hd]
        exact ⟨PAt.of (x := ⟨s.drop n, r, t⟩) ⟨by show (s.drop n).length ≤ 64; omega, fun e => by rw [show s = [] from unhide HL e]; exact List.drop_nil, hr, ht⟩ r2 e, (grownS_of_below hT.bel).trans g2⟩)
      rw [← unhide HTT] at hcv
      clear hT r1 r2 g2 hne hd hz HT HS
      go_wp2_with fail
      refine (unhide HP).mono ?_
      rintro e w5 ⟨rfl, hw5⟩
      rw [show w5 = wr from hw5]
      clear hw5
      go_wp2
      go_ret
      exact ⟨rfl, unhide HR⟩

/-- How far put is: k bytes are written. -/
structure PuS (w W : World) (p f k : Nat) (s d : List UInt8) (r t : Nat) (cs : Array Value) : Prop where
  rg : Rg W p f s.length (s ++ d.take k) r t cs
  gr : GrownS w W (fun q => q = p)
theorem PuS.below {w W W' : World} {p f k r t : Nat} {s d : List UInt8} {cs : Array Value} (H : PuS w W p f k s d r t cs) (hb : Below W.heap.size W W') : PuS w W' p f k s d r t cs :=
  ⟨H.rg.below hb, H.gr.trans (grownS_of_below hb)⟩
theorem PuS.step {w W : World} {p f k r t : Nat} {s d : List UInt8} {cs : Array Value} (H : PuS w W p f k s d r t cs) (hl : s.length + d.length ≤ 64) {c : UInt8} (hc : d[k]? = some c) {z : Nat} (hz : z = (f + (s.length + k)) % 64) : PuS w (W.setCell ⟨p, z, none⟩ (.int .u8 (c.toNat : Int))) p f (k + 1) s d r t (cs.setIfInBounds z (.int .u8 (c.toNat : Int))) := by
  have hk := (List.getElem?_eq_some_iff.1 hc).1
  have e : d.take (k + 1) = d.take k ++ [c] := by rw [List.take_add_one, hc]; rfl
  have hlen : (s ++ d.take k).length = s.length + k := by rw [List.length_append, List.length_take]; omega
  refine ⟨?_, H.gr.trans (own_set W p z _)⟩
  rw [e, ← List.append_assoc]
  exact H.rg.setR (by omega) c (by rw [hlen]; exact hz)

set_option maxRecDepth 20000 in
set_option maxHeartbeats 1000000 in
theorem put_any (w : World) (p : Nat) (x : Pp) (d : List UInt8) (H : PAt w p x) (hn : x.s.length + d.length ≤ 64) (h0 : x.r ≠ 0) : Calls Tryz.prog 248 #[.pointer (some ⟨p, 0, none⟩), .string (BA d)] w fun e w' => e = .returned (.tuple #[]) ∧ PAt w' p ⟨x.s ++ d, x.r, x.t⟩ ∧ GrownS w w' (fun k => k = p) := by
  obtain ⟨⟨h64, hlost, hr, ht⟩, f, cs, HR⟩ := H
  obtain ⟨s, r, t⟩ := x
  simp only at *
  have HS : Hid (PuS w w p f 0 s d r t cs) := hide ⟨by simpa using HR, grownS_of_below (Below.refl _ _)⟩
  have hf := HR.f64
  obtain ⟨m, hm⟩ : ∃ m, m = s.length := ⟨_, rfl⟩
  obtain ⟨n, hn2⟩ : ∃ n, n = d.length := ⟨_, rfl⟩
  rw [← hm, ← hn2] at hn
  obtain ⟨D, hD⟩ : ∃ D, D = BA d := ⟨_, rfl⟩
  have hDs : D.size = n := by rw [hD, hn2]; rfl
  rw [← hD]
  have HM := hide hm
  have HN := hide hn2
  have HD := hide hD
  have H0 := hide h0
  clear HR hm hlost h64 hn2 hD h0
  go_enter Tryz.func248, Tryz.ntmps248
  go_wp2_with fail
  go_loopw [7] (fun i wr => ∃ (k : Nat) (bs : Array Value), i = .int .i64 (k : Int) ∧ k ≤ n ∧ Hid (PuS w wr p f k s d r t bs)) (fun i _ => n - (intOf i).toNat)
  case atStart => exact ⟨0, cs, rfl, Nat.zero_le _, HS⟩
  case round =>
    obtain ⟨k, bs, rfl, hk, HT⟩ := hrel
    by_cases hlt : k < n
    · obtain ⟨c, hc⟩ : ∃ c, d[k]? = some c := ⟨_, List.getElem?_eq_getElem (by have := unhide HN; omega)⟩
      obtain ⟨z, hz⟩ : ∃ z, z = (f + (m + k)) % 64 := ⟨_, rfl⟩
      have hz1 : (z : Int) < 64 := by omega
      have hz0 : (0 : Int) ≤ (z : Int) := by omega
      have hk1 : (k : Int) < (n : Int) := by omega
      have hk0 : (0 : Int) ≤ (k : Int) := by omega
      have hwr : IntKind.i64.wrap ((m : Int) + (k : Int)) = ((m + k : Nat) : Int) := by rw [IntKind.wrap_i64]; omega
      obtain ⟨mk, hmk⟩ : ∃ mk, mk = m + k := ⟨_, rfl⟩
      rw [← hmk] at hwr hz
      have hDc : D[k]'(by omega) = c := by
        have h1 := unhide HD
        subst h1
        show d[k] = c
        exact (List.getElem?_eq_some_iff.1 hc).2
      obtain ⟨vk, hvk⟩ : ∃ vk, bs[z]? = some vk := ⟨_, Array.getElem?_eq_getElem (by rw [(unhide HT).rg.size]; omega)⟩
      have HP : Hid (∀ W, Below wr.heap.size wr W → Calls Tryz.prog 244 #[.pointer (some ⟨p, 0, none⟩), .int .i64 (mk : Int)] W fun e w' => e = .returned (.int .i64 (z : Int)) ∧ w'.cell? ⟨p, 65, none⟩ = some (.int .i64 (m : Int)) ∧ (w'.setCell ⟨p, z, none⟩ (.int .u8 (c.toNat : Int))).cell? ⟨p, 65, none⟩ = some (.int .i64 (m : Int)) ∧ w'.cell? ⟨p, z, none⟩ = some vk ∧ w'.frozen? ⟨p, z, none⟩ = false ∧ Hid (PuS w (w'.setCell ⟨p, z, none⟩ (.int .u8 (c.toNat : Int))) p f (k + 1) s d r t (bs.setIfInBounds z (.int .u8 (c.toNat : Int))))) := hide (fun W hb => by
        have ht := (unhide HT).below hb
        refine (place_any (ht.rg.blk.cell _ ht.rg.c64) hf (by omega) hz).mono ?_
        rintro e w' ⟨h1, h2⟩
        subst h2
        have h3 := unhide HM
        have h4 := unhide HN
        have ht2 := ht.step (by omega) hc (z := z) (by omega)
        exact ⟨h1, by rw [h3]; exact ht.rg.blk.cell _ ht.rg.c65, by rw [h3]; exact ht2.rg.blk.cell _ ht2.rg.c65, ht.rg.blk.cell z hvk, ht.rg.blk.frozen z, hide ht2⟩)
      have y0 : wr.cell? ⟨p, 65, none⟩ = some (.int .i64 (m : Int)) := by rw [unhide HM]; exact (unhide HT).rg.blk.cell _ (unhide HT).rg.c65
      clear HT HS hc hmk hz hvk
      go_wp2_with fail
      go_region_held3 (fun w' => w'.cell? ⟨p, 65, none⟩ = some (.int .i64 (m : Int))) (go_keep) (first
        | (go_at_call 244
           refine (unhide HP _ (by first | exact Below.refl _ _ | exact below_drew _ _)).mono ?_
           rintro e w5 ⟨rfl, y1, y2, y4, y3, HT5⟩))
      go_wp2
      all_goals
        refine ⟨⟨k + 1, _, by go_num, by omega, HT5⟩, ?_⟩
        simp [intOf]
        omega
    · have HE : Hid (k = n) := hide (by omega)
      have hk1 : ¬ (k : Int) < (n : Int) := by omega
      have hwr : IntKind.i64.wrap ((m : Int) + (n : Int)) = ((m + n : Nat) : Int) := by rw [IntKind.wrap_i64]; omega
      obtain ⟨mn, hmn⟩ : ∃ mn, mn = m + n := ⟨_, rfl⟩
      rw [← hmn] at hwr
      have hT := unhide HT
      have e : d.take k = d := List.take_of_length_le (by have := unhide HN; have := unhide HE; omega)
      have r1 := hT.rg.set65 mn
      rw [e] at r1
      have c65 := hT.rg.blk.cell _ hT.rg.c65
      rw [← unhide HM] at c65
      have f65 := hT.rg.blk.frozen 65
      have HR : Hid (PAt (wr.setCell ⟨p, 65, none⟩ (.int .i64 (mn : Int))) p ⟨s ++ d, r, t⟩ ∧ GrownS w (wr.setCell ⟨p, 65, none⟩ (.int .i64 (mn : Int))) (fun k => k = p)) := hide (by
        have el : mn = (s ++ d).length := by rw [List.length_append, ← unhide HM, ← unhide HN, hmn]
        exact ⟨PAt.of (x := ⟨s ++ d, r, t⟩) ⟨by show (s ++ d).length ≤ 64; omega, fun e => absurd e (unhide H0), hr, ht⟩ r1 el, hT.gr.trans (own_set wr p 65 _)⟩)
      clear hT r1 hmn HT HS
      go_wp2
      refine bodyPost_end (res0 rfl _ _) rfl ?_
      exact ⟨rfl, unhide HR⟩

end Go.Proofs.YtemologkibcdoaaGreatDoor.Pi

/- A pipe's calls: New, Read, Write, Join, Leave, Len, Users. -/
namespace Go.Proofs.YtemologkibcdoaaGreatDoor.Pi
open Go.RowKit

def I64 (x : Int) : Prop := -9223372036854775808 ≤ x ∧ x ≤ 9223372036854775807
theorem PAt.cells {w : World} {p : Nat} {x : Pp} (H : PAt w p x) : w.cell? ⟨p, 65, none⟩ = some (.int .i64 (x.s.length : Int)) ∧ w.cell? ⟨p, 66, none⟩ = some (.int .i64 (x.r : Int)) ∧ w.cell? ⟨p, 67, none⟩ = some (.int .i64 (x.t : Int)) ∧ ∀ k, w.frozen? ⟨p, k, none⟩ = false := by
  obtain ⟨_, f, cs, h⟩ := H
  exact ⟨h.blk.cell _ h.c65, h.blk.cell _ h.c66, h.blk.cell _ h.c67, fun k => h.blk.frozen k⟩
theorem PAt.set66 {w : World} {p : Nat} {x : Pp} (H : PAt w p x) {r : Nat} (hf : Fit ⟨x.s, r, x.t⟩) : PAt (w.setCell ⟨p, 66, none⟩ (.int .i64 (r : Int))) p ⟨x.s, r, x.t⟩ := by
  obtain ⟨_, f, cs, h⟩ := H
  exact PAt.of hf (h.set66 r) rfl
theorem PAt.set67 {w : World} {p : Nat} {x : Pp} (H : PAt w p x) {t : Nat} (hf : Fit ⟨x.s, x.r, t⟩) : PAt (w.setCell ⟨p, 67, none⟩ (.int .i64 (t : Int))) p ⟨x.s, x.r, t⟩ := by
  obtain ⟨_, f, cs, h⟩ := H
  exact PAt.of hf (h.set67 t) rfl
/-- The last reader leaves: its bytes are lost. -/
theorem PAt.last {w : World} {p : Nat} {x : Pp} (H : PAt w p x) : PAt ((w.setCell ⟨p, 66, none⟩ (.int .i64 0)).setCell ⟨p, 65, none⟩ (.int .i64 0)) p ⟨[], 0, x.t⟩ := by
  obtain ⟨hx, f, cs, h⟩ := H
  have h2 := (h.set66 0).set65 0
  exact PAt.of (x := ⟨[], 0, x.t⟩) ⟨by simp, fun _ => rfl, by simp, hx.ts⟩ ⟨h2.blk, h2.size, h2.c64, h2.c65, h2.c66, h2.c67, fun i c hc => by simp at hc, h2.f64⟩ rfl

def newC : Array Value := (Lib.byteCells (List.replicate 64 0) ++ ([.int .i64 0, .int .i64 0, .int .i64 1, .int .i64 1] : List Value)).toArray
theorem new_at {w : World} {p : Nat} (h : Blk w p 158 newC) : PAt w p np0 :=
  PAt.of (f := 0) fit0 ⟨h, by kernel_rfl, by kernel_rfl, by kernel_rfl, by kernel_rfl, by kernel_rfl, fun i c hc => by simp [np0] at hc, by decide⟩ rfl
def zerC : Array Value := (Lib.byteCells (List.replicate 64 0) ++ ([.int .i64 0, .int .i64 0, .int .i64 0, .int .i64 0] : List Value)).toArray
theorem zer_run (w : World) : (zeroValue 158).run Tryz.prog w = .ok (.agg zerC) w := by kernel_rfl
theorem zer_new : (zerC.setIfInBounds 66 (Value.int IntKind.i64 1)).setIfInBounds 67 (Value.int IntKind.i64 1) = newC := by kernel_rfl
theorem zer_size : zerC.size = 68 := by kernel_rfl
set_option maxRecDepth 20000 in
theorem new_any (w : World) : Calls Tryz.prog 48 #[] w fun e w' => ∃ p, e = .returned (.pointer (some ⟨p, 0, none⟩)) ∧ PAt w' p np0 ∧ Below w.heap.size w w' ∧ w.heap.size ≤ p := by
  have HB : Hid (PAt (w.alloc (.cells newC 158)) w.heap.size np0 ∧ Below w.heap.size w (w.alloc (.cells newC 158))) := hide ⟨new_at (Blk.new _ _ _), (Below.refl _ _).alloc (Nat.le_refl _) _⟩
  have z1 := zer_run w
  have z2 := zer_new
  have z3 := zer_size
  obtain ⟨Z, hZ⟩ : ∃ Z, Z = zerC := ⟨_, rfl⟩
  obtain ⟨C, hC⟩ : ∃ C, C = newC := ⟨_, rfl⟩
  rw [← hZ] at z1 z2 z3
  rw [← hC] at z2 HB
  clear hZ hC
  go_enter Tryz.func48, Tryz.ntmps48
  go_wp2
  go_ret
  exact ⟨w.heap.size, rfl, (unhide HB).1, (unhide HB).2, Nat.le_refl _⟩

def sideO : Bool → Nat
  | true => 67
  | false => 66
set_option maxRecDepth 20000 in
theorem side_any (w : World) (p : Nat) (b : Bool) : Calls Tryz.prog 242 #[.pointer (some ⟨p, 0, none⟩), .bool b] w fun e w' => e = .returned (.pointer (some ⟨p, sideO b, none⟩)) ∧ w' = w := by
  cases b
  all_goals
    go_enter Tryz.func242, Tryz.ntmps242
    go_wp2
    go_ret
    exact ⟨rfl, rfl⟩

set_option maxRecDepth 20000 in
set_option maxHeartbeats 1000000 in
theorem leave_t {w : World} {p : Nat} {x : Pp} (H : PAt w p x) : Calls Tryz.prog 240 #[.pointer (some ⟨p, 0, none⟩), .bool true] w fun e w' => e = .returned (.int .i64 (leE x true)) ∧ PAt w' p (leS x true) ∧ GrownS w w' (fun k => k = p) := by
  have HS := hide (side_any w p true)
  obtain ⟨c65, c66, c67, hf⟩ := H.cells
  have f65 := hf 65
  have f67 := hf 67
  by_cases h0 : x.t = 0
  · have HH := hide H
    rw [show leE x true = 28 by unfold leE; rw [if_pos (by simpa using h0)], show leS x true = x by
      obtain ⟨s, r, t⟩ := x
      simp only at h0
      subst h0
      rfl]
    rw [h0] at c67
    clear H hf h0
    go_enter Tryz.func240, Tryz.ntmps240
    go_wp2_with fail
    refine (unhide HS).mono ?_
    rintro e w5 ⟨rfl, hw5⟩
    rw [show w5 = w from hw5, show sideO true = 67 from rfl]
    clear hw5
    go_wp2
    go_ret
    exact ⟨rfl, unhide HH, grownS_of_below (Below.refl _ _)⟩
  · have hq := H.set67 (t := x.t - 1) (H.fit.le true)
    have k66 := hq.cells.2.1
    have k65 := hq.cells.1
    have q65 := hq.cells.2.2.2 65
    have w2 : IntKind.i64.wrap ((x.t : Int) - 1) = ((x.t - 1 : Nat) : Int) := by have := H.fit.ts; rw [IntKind.wrap_i64]; omega
    rw [show leE x true = 0 by unfold leE; rw [if_neg (by simpa using h0)]]
    have hne : ((x.t : Int) == 0) = false := by simp; omega
    have HL := hide H.fit.lost
    obtain ⟨s, r, t⟩ := x
    simp only at *
    rw [show leS ⟨s, r, t⟩ true = ⟨s, r, t - 1⟩ from rfl]
    obtain ⟨t1, ht1⟩ : ∃ t1, t1 = t - 1 := ⟨_, rfl⟩
    rw [← ht1] at hq w2 k66 k65 q65
    rw [← ht1]
    clear ht1 H hf h0
    by_cases hr : r = 0
    · have HQ := hide (show PAt ((w.setCell ⟨p, 67, none⟩ (.int .i64 (t1 : Int))).setCell ⟨p, 65, none⟩ (.int .i64 0)) p ⟨s, r, t1⟩ from by
        obtain ⟨h1, f, cs, h2⟩ := hq
        exact PAt.of h1 (h2.set65 0) (by rw [show s = [] from unhide HL hr]; rfl))
      have HG := hide ((own_set w p 67 (.int .i64 (t1 : Int))).trans (own_set (w.setCell ⟨p, 67, none⟩ (.int .i64 (t1 : Int))) p 65 (.int .i64 0)))
      clear hq
      subst hr
      go_enter Tryz.func240, Tryz.ntmps240
      go_wp2_with fail
      refine (unhide HS).mono ?_
      rintro e w5 ⟨rfl, hw5⟩
      rw [show w5 = w from hw5, show sideO true = 67 from rfl]
      clear hw5
      go_wp2
      go_ret
      exact ⟨rfl, unhide HQ, unhide HG⟩
    · have hn2 : ((r : Int) == 0) = false := by simp; omega
      have HQ := hide hq
      clear hq hr
      go_enter Tryz.func240, Tryz.ntmps240
      go_wp2_with fail
      refine (unhide HS).mono ?_
      rintro e w5 ⟨rfl, hw5⟩
      rw [show w5 = w from hw5, show sideO true = 67 from rfl]
      clear hw5
      go_wp2
      go_ret
      exact ⟨rfl, unhide HQ, own_set _ _ _ _⟩

set_option maxRecDepth 20000 in
set_option maxHeartbeats 1000000 in
theorem leave_f {w : World} {p : Nat} {x : Pp} (H : PAt w p x) : Calls Tryz.prog 240 #[.pointer (some ⟨p, 0, none⟩), .bool false] w fun e w' => e = .returned (.int .i64 (leE x false)) ∧ PAt w' p (leS x false) ∧ GrownS w w' (fun k => k = p) := by
  have HS := hide (side_any w p false)
  obtain ⟨c65, c66, c67, hf⟩ := H.cells
  have f65 := hf 65
  have f66 := hf 66
  by_cases h0 : x.r = 0
  · have HH := hide H
    rw [show leE x false = 28 by unfold leE; rw [if_pos (by simpa using h0)], show leS x false = x by
      have h1 := H.fit.lost h0
      obtain ⟨s, r, t⟩ := x
      simp only at h0 h1
      subst h0 h1
      rfl]
    rw [h0] at c66
    clear H hf h0
    go_enter Tryz.func240, Tryz.ntmps240
    go_wp2_with fail
    refine (unhide HS).mono ?_
    rintro e w5 ⟨rfl, hw5⟩
    rw [show w5 = w from hw5, show sideO false = 66 from rfl]
    clear hw5
    go_wp2
    go_ret
    exact ⟨rfl, unhide HH, grownS_of_below (Below.refl _ _)⟩
  · rw [show leE x false = 0 by unfold leE; rw [if_neg (by simpa using h0)]]
    by_cases h1 : x.r = 1
    · have HQ := hide H.last
      have HG := hide ((own_set w p 66 (.int .i64 0)).trans (own_set (w.setCell ⟨p, 66, none⟩ (.int .i64 0)) p 65 (.int .i64 0)))
      have k65 : (w.setCell ⟨p, 66, none⟩ (.int .i64 0)).cell? ⟨p, 65, none⟩ = some (.int .i64 (x.s.length : Int)) := by
        obtain ⟨_, f, cs, h⟩ := H
        exact (h.set66 0).blk.cell _ (h.set66 0).c65
      have k66 : (w.setCell ⟨p, 66, none⟩ (.int .i64 0)).cell? ⟨p, 66, none⟩ = some (.int .i64 0) := by
        obtain ⟨_, f, cs, h⟩ := H
        exact (h.set66 0).blk.cell _ (h.set66 0).c66
      have q65 : (w.setCell ⟨p, 66, none⟩ (.int .i64 0)).frozen? ⟨p, 65, none⟩ = false := by
        obtain ⟨_, f, cs, h⟩ := H
        exact (h.set66 0).blk.frozen _
      rw [h1] at c66
      rw [show leS x false = ⟨[], 0, x.t⟩ by
        obtain ⟨s, r, t⟩ := x
        simp only at h1
        subst h1
        rfl]
      clear H hf h0 h1
      go_enter Tryz.func240, Tryz.ntmps240
      go_wp2_with fail
      refine (unhide HS).mono ?_
      rintro e w5 ⟨rfl, hw5⟩
      rw [show w5 = w from hw5, show sideO false = 66 from rfl]
      clear hw5
      go_wp2
      go_ret
      exact ⟨rfl, unhide HQ, unhide HG⟩
    · have e2 : leS x false = ⟨x.s, x.r - 1, x.t⟩ := by
        unfold leS
        simp only [Bool.false_eq_true, if_false]
        rw [if_neg (by omega)]
      have hfit := H.fit.le false
      rw [e2] at hfit
      rw [e2]
      have hq := H.set66 (r := x.r - 1) hfit
      have k66 := hq.cells.2.1
      have w2 : IntKind.i64.wrap ((x.r : Int) - 1) = ((x.r - 1 : Nat) : Int) := by have := H.fit.rs; rw [IntKind.wrap_i64]; omega
      obtain ⟨s, r, t⟩ := x
      simp only at *
      obtain ⟨r1, hr1⟩ : ∃ r1, r1 = r - 1 := ⟨_, rfl⟩
      rw [← hr1] at hq w2 k66
      rw [← hr1]
      have hn1 : ((r : Int) == 0) = false := by simp; omega
      have hn2 : ((r1 : Int) == 0) = false := by simp; omega
      have HQ := hide hq
      clear hq hr1 H hf h0 h1 e2 hfit
      go_enter Tryz.func240, Tryz.ntmps240
      go_wp2_with fail
      refine (unhide HS).mono ?_
      rintro e w5 ⟨rfl, hw5⟩
      rw [show w5 = w from hw5, show sideO false = 66 from rfl]
      clear hw5
      go_wp2
      go_ret
      exact ⟨rfl, unhide HQ, own_set _ _ _ _⟩
theorem leave_any {w : World} {p : Nat} {x : Pp} (H : PAt w p x) (b : Bool) : Calls Tryz.prog 240 #[.pointer (some ⟨p, 0, none⟩), .bool b] w fun e w' => e = .returned (.int .i64 (leE x b)) ∧ PAt w' p (leS x b) ∧ GrownS w w' (fun k => k = p) := by
  cases b
  · exact leave_f H
  · exact leave_t H

set_option maxRecDepth 20000 in
set_option maxHeartbeats 1000000 in
theorem read_any {w : World} {p : Nat} {x : Pp} (H : PAt w p x) (n : Int) : Calls Tryz.prog 241 #[.pointer (some ⟨p, 0, none⟩), .int .i64 n] w fun e w' => e = .returned (.tuple #[.string (BA (rdT x n)), .int .i64 (rdE x n)]) ∧ PAt w' p (rdS x n) ∧ GrownS w w' (fun k => k = p) := by
  obtain ⟨c65, c66, c67, _⟩ := H.cells
  by_cases hE : rdE x n = 0
  · have h0 : x.r ≠ 0 := fun e => by unfold rdE at hE; rw [if_pos e] at hE; cases hE
    have h1 : ¬ n < 0 := fun e => by unfold rdE at hE; rw [if_neg h0, if_pos e] at hE; cases hE
    have h2 : ¬ (x.s = [] ∧ 0 < x.t ∧ 0 < n) := fun e => by unfold rdE at hE; rw [if_neg h0, if_neg h1, if_pos e] at hE; cases hE
    rw [show rdT x n = x.s.take n.toNat by unfold rdT; rw [if_pos hE], show rdS x n = ⟨x.s.drop n.toNat, x.r, x.t⟩ by unfold rdS; rw [if_pos hE], hE]
    obtain ⟨m, rfl⟩ : ∃ m : Nat, n = m := ⟨n.toNat, by omega⟩
    rw [show (m : Int).toNat = m by omega]
    obtain ⟨k, hk⟩ : ∃ k, k = min m x.s.length := ⟨_, rfl⟩
    have e1 : x.s.take k = x.s.take m := by
      rw [hk]
      rcases Nat.le_total m x.s.length with h | h
      · rw [Nat.min_eq_left h]
      · rw [Nat.min_eq_right h, List.take_length, List.take_of_length_le h]
    have e2 : x.s.drop k = x.s.drop m := by
      rw [hk]
      rcases Nat.le_total m x.s.length with h | h
      · rw [Nat.min_eq_left h]
      · rw [Nat.min_eq_right h, List.drop_length, List.drop_of_length_le h]
    have hr : ((x.r : Int) == 0) = false := by simp; omega
    have hm : ((x.s.length : Int) == 0) = false ∨ (x.s.length = 0 ∧ x.t = 0) ∨ (x.s.length = 0 ∧ (0 : Int) < (x.t : Int) ∧ m = 0) := by
      by_cases hs : x.s = []
      · by_cases ht : x.t = 0
        · exact .inr (.inl ⟨by simp [hs], ht⟩)
        · exact .inr (.inr ⟨by simp [hs], by omega, by
            by_cases hm : m = 0
            · exact hm
            · exact absurd ⟨hs, by omega, by omega⟩ h2⟩)
      · have : 0 < x.s.length := List.length_pos_iff.2 hs
        exact .inl (by simp; omega)
    obtain ⟨T, hT⟩ : ∃ T, T = BA (x.s.take m) := ⟨_, rfl⟩
    rw [← hT]
    obtain ⟨y, hy⟩ : ∃ y : Pp, y = ⟨x.s.drop m, x.r, x.t⟩ := ⟨_, rfl⟩
    rw [← hy]
    have HT : Hid (Calls Tryz.prog 243 #[.pointer (some ⟨p, 0, none⟩), .int .i64 (k : Int)] w fun e w' => e = .returned (.string T) ∧ PAt w' p y ∧ GrownS w w' (fun k => k = p)) := hide (by
      rw [hT, hy, ← e1, ← e2]
      exact take_any w p x k H (by omega))
    have hn1 : ¬ (m : Int) < 0 := by omega
    have hmin : ((x.s.length : Int) < (m : Int) ∧ k = x.s.length) ∨ (¬ (x.s.length : Int) < (m : Int) ∧ k = m) := by omega
    obtain ⟨s, r, t⟩ := x
    simp only at c65 c66 c67 hr hm hmin
    obtain ⟨l, hl⟩ : ∃ l, l = s.length := ⟨_, rfl⟩
    rw [← hl] at hm hmin c65
    clear hk e1 e2 hT hy hl H hE h0 h1 h2
    rcases hm with hm | ⟨rfl, rfl⟩ | ⟨rfl, hm, rfl⟩ <;> rcases hmin with ⟨m1, rfl⟩ | ⟨m1, rfl⟩ <;> first | (exfalso; omega) | skip
    all_goals
      go_enter Tryz.func241, Tryz.ntmps241
      go_wp2_with fail
      refine (unhide HT).mono ?_
      rintro e w5 ⟨rfl, h5, h6⟩
      have H5 := hide h5
      have H6 := hide h6
      clear h5 h6
      go_wp2
      go_ret2
      exact ⟨rfl, unhide H5, unhide H6⟩
  · rw [show rdT x n = [] by unfold rdT; rw [if_neg hE], show rdS x n = x by unfold rdS; rw [if_neg hE]]
    have HH := hide H
    obtain ⟨E, hEE⟩ : ∃ E, E = rdE x n := ⟨_, rfl⟩
    rw [← hEE]
    have hc : (x.r = 0 ∧ E = 28) ∨ (((x.r : Int) == 0) = false ∧ n < 0 ∧ E = 1) ∨ (((x.r : Int) == 0) = false ∧ ¬ n < 0 ∧ x.s.length = 0 ∧ (0 : Int) < (x.t : Int) ∧ 0 < n ∧ E = 30) := by
      unfold rdE at hEE hE
      by_cases h0 : x.r = 0
      · rw [if_pos h0] at hEE
        exact .inl ⟨h0, hEE⟩
      · rw [if_neg h0] at hEE hE
        by_cases h1 : n < 0
        · rw [if_pos h1] at hEE
          exact .inr (.inl ⟨by simp; omega, h1, hEE⟩)
        · rw [if_neg h1] at hEE hE
          by_cases h2 : x.s = [] ∧ 0 < x.t ∧ 0 < n
          · rw [if_pos h2] at hEE
            exact .inr (.inr ⟨by simp; omega, h1, by rw [h2.1]; rfl, by omega, h2.2.2, hEE⟩)
          · rw [if_neg h2] at hE
            exact absurd rfl hE
    obtain ⟨s, r, t⟩ := x
    simp only at c65 c66 c67 hc
    obtain ⟨l, hl⟩ : ∃ l, l = s.length := ⟨_, rfl⟩
    rw [← hl] at hc c65
    clear hl hEE hE H
    rcases hc with ⟨rfl, rfl⟩ | ⟨h0, h1, rfl⟩ | ⟨h0, h1, rfl, h3, h4, rfl⟩
    all_goals
      go_enter Tryz.func241, Tryz.ntmps241
      go_wp2
      go_ret2
      exact ⟨rfl, unhide HH, grownS_of_below (Below.refl _ _)⟩

set_option maxRecDepth 20000 in
set_option maxHeartbeats 1000000 in
theorem write_any {w : World} {p : Nat} {x : Pp} (H : PAt w p x) (d : List UInt8) : Calls Tryz.prog 247 #[.pointer (some ⟨p, 0, none⟩), .string (BA d)] w fun e w' => e = .returned (.tuple #[.int .i64 (wrN x d : Int), .int .i64 (wrE x d)]) ∧ PAt w' p (wrS x d) ∧ GrownS w w' (fun k => k = p) := by
  obtain ⟨c65, c66, c67, _⟩ := H.cells
  have HH := hide H
  obtain ⟨D, hD⟩ : ∃ D, D = BA d := ⟨_, rfl⟩
  have hDs : D.size = d.length := by rw [hD]; rfl
  rw [← hD]
  by_cases ht : x.t = 0
  · rw [show wrN x d = 0 by unfold wrN; rw [if_pos ht], show wrE x d = 28 by unfold wrE; rw [if_pos ht], show wrS x d = x by unfold wrS; rw [if_pos (.inl ht)]]
    rw [ht] at c67
    clear hD H hDs ht
    go_enter Tryz.func247, Tryz.ntmps247
    go_wp2
    go_ret2
    exact ⟨rfl, unhide HH, grownS_of_below (Below.refl _ _)⟩
  have hq1 : ((x.t : Int) == 0) = false := by simp; omega
  by_cases hr : x.r = 0
  · rw [show wrN x d = d.length by unfold wrN; rw [if_neg ht, if_pos hr], show wrE x d = 0 by unfold wrE; rw [if_neg ht, if_pos hr], show wrS x d = x by unfold wrS; rw [if_pos (.inr hr)]]
    rw [hr] at c66
    clear hD H hr ht
    go_enter Tryz.func247, Tryz.ntmps247
    go_wp2
    go_ret2
    exact ⟨rfl, unhide HH, grownS_of_below (Below.refl _ _)⟩
  have hq2 : ((x.r : Int) == 0) = false := by simp; omega
  have hfew := H.fit.few
  obtain ⟨n, hn⟩ : ∃ n, n = room x d := ⟨_, rfl⟩
  have hN : wrN x d = n := by unfold wrN; rw [if_neg ht, if_neg hr, hn]
  have hS : wrS x d = ⟨x.s ++ d.take n, x.r, x.t⟩ := by unfold wrS; rw [if_neg (by omega), hn]
  have hE : wrE x d = if n = 0 ∧ d ≠ [] then 30 else 0 := by unfold wrE; rw [if_neg ht, if_neg hr, hn]
  rw [hN, hS, hE]
  have hn2 : n = min d.length (64 - x.s.length) := hn
  obtain ⟨rm, hrm⟩ : ∃ rm, rm = 64 - x.s.length := ⟨_, rfl⟩
  have hw : IntKind.i64.wrap (64 - (x.s.length : Int)) = (rm : Int) := by rw [IntKind.wrap_i64]; omega
  have hmin : ((rm : Int) < (d.length : Int) ∧ n = rm) ∨ (¬ (rm : Int) < (d.length : Int) ∧ n = d.length) := by omega
  by_cases h0 : n = 0 ∧ d ≠ []
  · rw [if_pos h0]
    have e0 : (⟨x.s ++ d.take n, x.r, x.t⟩ : Pp) = x := by rw [h0.1, List.take_zero, List.append_nil]
    rw [e0]
    have hne : D.toList.isEmpty = false := by
      rw [hD, ByteArray.toList_eq]
      show d.isEmpty = false
      cases hd : d with
      | nil => exact absurd hd h0.2
      | cons => rfl
    obtain ⟨dl, hdl⟩ : ∃ dl, dl = d.length := ⟨_, rfl⟩
    have hd0 : 0 < dl := by rw [hdl]; exact List.length_pos_iff.2 h0.2
    rw [← hdl] at hDs hmin
    have hrm0 : rm = 0 ∧ n = 0 := by omega
    obtain ⟨r0, n0⟩ := hrm0
    have hm2 : (0 : Int) < (dl : Int) := by omega
    rw [r0] at hw
    rw [n0]
    obtain ⟨l, hl⟩ : ∃ l, l = x.s.length := ⟨_, rfl⟩
    rw [← hl] at hw c65
    clear hl hD hmin hn hn2 hN hS hE h0 hdl H e0 hd0 r0 n0 hfew hrm ht hr
    go_enter Tryz.func247, Tryz.ntmps247
    go_wp2
    go_ret2
    exact ⟨rfl, unhide HH, grownS_of_below (Below.refl _ _)⟩
  · rw [if_neg h0]
    have hex : D.extract 0 n = BA (d.take n) := by rw [hD]; exact ext_take d n
    obtain ⟨T, hT⟩ : ∃ T, T = BA (d.take n) := ⟨_, rfl⟩
    rw [← hT] at hex
    obtain ⟨y, hy⟩ : ∃ y : Pp, y = ⟨x.s ++ d.take n, x.r, x.t⟩ := ⟨_, rfl⟩
    rw [← hy]
    have HT : Hid (Calls Tryz.prog 248 #[.pointer (some ⟨p, 0, none⟩), .string T] w fun e w' => e = .returned (.tuple #[]) ∧ PAt w' p y ∧ GrownS w w' (fun k => k = p)) := hide (by
      rw [hT, hy]
      exact put_any w p x (d.take n) H (by rw [List.length_take]; omega) hr)
    have hc : ((n : Int) == 0) = false ∨ (D.toList.isEmpty = true ∧ n = 0 ∧ d.length = 0 ∧ T = ByteArray.empty) := by
      by_cases hd : d = []
      · refine .inr ⟨by rw [hD, ByteArray.toList_eq, hd]; rfl, ?_, by rw [hd]; rfl, by rw [hT, hd, List.take_nil]; rfl⟩
        rw [hn2, hd]
        simp
      · refine .inl ?_
        have : n ≠ 0 := fun e => h0 ⟨e, hd⟩
        simp
        omega
    have hns : n ≤ D.size := by omega
    obtain ⟨l, hl⟩ : ∃ l, l = x.s.length := ⟨_, rfl⟩
    rw [← hl] at hw c65
    obtain ⟨dl, hdl⟩ : ∃ dl, dl = d.length := ⟨_, rfl⟩
    rw [← hdl] at hDs hmin hc
    clear hl hD hn hn2 hN hS hE h0 hdl H hfew hrm ht hr hT hy
    rcases hc with hc | ⟨he, rfl, rfl, rfl⟩ <;> rcases hmin with ⟨m1, m2⟩ | ⟨m1, m2⟩
    all_goals
      try subst m2
      first
      | (exfalso; omega)
      | skip
    all_goals
      go_enter Tryz.func247, Tryz.ntmps247
      go_wp2_with fail
      refine (unhide HT).mono ?_
      rintro e w5 ⟨rfl, h5, h6⟩
      have H5 := hide h5
      have H6 := hide h6
      clear h5 h6
      go_wp2
      go_ret2
      exact ⟨rfl, unhide H5, unhide H6⟩

end Go.Proofs.YtemologkibcdoaaGreatDoor.Pi

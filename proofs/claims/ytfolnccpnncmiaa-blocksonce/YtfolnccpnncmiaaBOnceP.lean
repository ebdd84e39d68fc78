/-
  BlocksOnce, in pure form, and its row of what is taken.
-/
import Derived.Test.YtfolnccpnncmiaaBHeld
import Derived.Test.YtfolnccpnncmiaaBKeepP
namespace Go.Proofs.Ytfolnccpnncmiaa
open Go.RowKit

/-- The law's own row: place i + 1 says whether the block at i is taken. -/
def Tk (W : World) (t : Nat) (l : BL) : Prop := ∃ cs, Blk W t 4 cs ∧ cs.size = l.length + 1 ∧ ∀ (i : Nat) (x : List UInt8), l[i]? = some x → cs[i + 1]? = some (Value.bool (!x.isEmpty))
theorem Tk.own2 {W W' : World} {t g h : Nat} {l : BL} (H : Tk W t l) (ho : Own2 W W' g h) (hg : t ≠ g) (hh : t ≠ h) : Tk W' t l := by
  obtain ⟨cs, k, h1, h2⟩ := H
  exact ⟨cs, k.grownS ho (fun e => by rcases e with e | e; exact hg e; exact hh e), h1, h2⟩
theorem Tk.below {W W' : World} {t : Nat} {l : BL} (H : Tk W t l) (hb : Below W.heap.size W W') : Tk W' t l := by
  obtain ⟨cs, k, h1, h2⟩ := H
  exact ⟨cs, k.below hb k.lt, h1, h2⟩
theorem Tk.set {W : World} {t i : Nat} {l : BL} {y : List UInt8} {b : Bool} (H : Tk W t l) (hi : i < l.length) (hb : b = !y.isEmpty) : Tk (W.setCell ⟨t, i + 1, none⟩ (.bool b)) t (l.set i y) := by
  subst hb
  obtain ⟨cs, k, h1, h2⟩ := H
  refine ⟨_, k.set (i + 1) _, by simpa using h1, fun j x hj => ?_⟩
  rw [List.getElem?_set] at hj
  by_cases e : i = j
  · subst e
    rw [if_pos rfl, if_pos hi] at hj
    cases hj
    rw [Array.getElem?_setIfInBounds_self_of_lt (by omega)]
  · rw [if_neg e] at hj
    rw [Array.getElem?_setIfInBounds_ne (by omega)]
    exact h2 j x hj
theorem Tk.cell {W : World} {t i : Nat} {l : BL} {x : List UInt8} (H : Tk W t l) (h : l[i]? = some x) : W.cell? ⟨t, i + 1, none⟩ = some (.bool (!x.isEmpty)) ∧ W.frozen? ⟨t, i + 1, none⟩ = false := by
  obtain ⟨cs, k, h1, h2⟩ := H
  exact ⟨k.cell _ (h2 i x h), k.frozen _⟩
theorem Held.other {w W : World} {p g h t : Nat} {l : BL} (H : Held w W p g h l) (a : Nat) (v : Value) (h1 : w.heap.size ≤ t) (hp : t ≠ p) (hg : t ≠ g) (hh : t ≠ h) : Held w (W.setCell ⟨t, a, none⟩ v) p g h l := by
  have hs := GrownS.of (S := fun k => k = t) (grown_setCell W ⟨t, a, none⟩ v) (fun k e => by simpa using e)
  exact ⟨H.1.grownS hs (fun e => hp e.symm) (fun e => hg e.symm) (fun e => hh e.symm), H.2.1.trans (hs.below H.2.1.size (fun k e => by rw [e]; exact h1)), H.2.2⟩
/-- What the law holds, call by call: m blocks are taken. -/
structure OnceS (w W : World) (p g h t : Nat) (l : BL) (N m : Nat) : Prop where
  held : Held w W p g h l
  tk : Tk W t l
  tw : w.heap.size ≤ t
  tp : t ≠ p
  tg : t ≠ g
  th : t ≠ h
  len : l.length = N
  many : m + freeN l = N
theorem free_none {l : BL} (h : ¬ freeAt l < l.length) : freeN l = 0 := by
  unfold freeN
  rw [List.countP_eq_zero]
  intro x hx he
  exact h (List.findIdx_lt_length_of_exists ⟨x, hx, he⟩)
theorem free_at {l : BL} (h : freeAt l < l.length) : l[freeAt l]? = some [] := by
  have h2 : (l[freeAt l]).isEmpty = true := List.findIdx_getElem (w := h)
  rw [List.getElem?_eq_getElem h, List.isEmpty_iff.1 h2]
/-- Behind a Take that took the block at f, and the law's own mark. -/
theorem OnceS.took {w W W' : World} {p g h t N m f : Nat} {l : BL} (H : OnceS w W p g h t l N m) (hf : freeAt l = f) (hlt : f < N) (h2 : Held w W' p g h (l.set f z64)) (ho : Own2 W W' g h) : OnceS w (W'.setCell ⟨t, f + 1, none⟩ (.bool true)) p g h t (l.set f z64) N (m + 1) := by
  have hlt2 : f < l.length := by rw [H.len]; exact hlt
  have h3 := free_set (y := z64) (free_at (by rw [hf]; exact hlt2))
  rw [hf] at h3
  have e1 : (([] : List UInt8)).isEmpty = true := rfl
  have e2 : z64.isEmpty = false := rfl
  rw [e1, e2] at h3
  simp at h3
  exact ⟨h2.other _ _ H.tw H.tp H.tg H.th, (H.tk.own2 ho H.tg H.th).set hlt2 rfl, H.tw, H.tp, H.tg, H.th, by rw [List.length_set]; exact H.len, by have := H.many; omega⟩
/-- Behind a Give of the block at i, and the law's own mark. -/
theorem OnceS.gave {w W W' : World} {p g h t N m i : Nat} {l : BL} {x : List UInt8} (H : OnceS w W p g h t l N m) (hx : l[i]? = some x) (hne : x ≠ []) (h2 : Held w W' p g h (l.set i [])) (ho : Own2 W W' g h) : OnceS w (W'.setCell ⟨t, i + 1, none⟩ (.bool false)) p g h t (l.set i []) N (m - 1) ∧ 1 ≤ m := by
  have hi := (List.getElem?_eq_some_iff.1 hx).1
  have h3 := free_set (y := []) hx
  have e1 : (([] : List UInt8)).isEmpty = true := rfl
  have e2 : x.isEmpty = false := by cases x with
    | nil => exact absurd rfl hne
    | cons => rfl
  rw [e1, e2] at h3
  simp at h3
  have h4 : freeN (l.set i []) ≤ (l.set i []).length := List.countP_le_length
  rw [List.length_set, H.len] at h4
  have h5 := H.many
  exact ⟨⟨h2.other _ _ H.tw H.tp H.tg H.th, (H.tk.own2 ho H.tg H.th).set hi rfl, H.tw, H.tp, H.tg, H.th, by rw [List.length_set]; exact H.len, by omega⟩, by omega⟩
theorem OnceS.same {w W W' : World} {p g h t N m : Nat} {l : BL} (H : OnceS w W p g h t l N m) (h2 : Held w W' p g h l) (ho : Own2 W W' g h) : OnceS w W' p g h t l N m :=
  ⟨h2, H.tk.own2 ho H.tg H.th, H.tw, H.tp, H.tg, H.th, H.len, H.many⟩
theorem OnceS.free {w W : World} {p g h t N m : Nat} {l : BL} (H : OnceS w W p g h t l N m) : Calls Try.prog 21 #[.pointer (some ⟨p, 0, none⟩)] W fun e w' => e = .returned (.int .i64 ((N : Int) - (m : Int))) ∧ w' = W :=
  (free_held H.held).mono fun e w' ⟨h1, h2⟩ => ⟨by rw [h1]; exact ret_int (by have := H.many; omega), h2⟩
theorem tk_new {n : Nat} {cs : Array Value} {W : World} (h : Takens (List.replicate (n + 1) []) cs) (hs : cs.size = n + 1) : Tk (W.alloc (.cells cs 4)) W.heap.size (List.replicate n []) := by
  refine ⟨cs, Blk.new _ _ _, by rw [List.length_replicate]; exact hs, fun i x hx => ?_⟩
  obtain ⟨hi, rfl⟩ := List.getElem?_eq_some_iff.1 hx
  rw [List.length_replicate] at hi
  have := h (i + 1) [] (by rw [List.getElem?_replicate, if_pos (by omega)])
  rw [this, List.getElem_replicate]
theorem once_new {w W : World} {p g h n : Nat} {cs : Array Value} (H : Held w W p g h (List.replicate n [])) (hT : Takens (List.replicate (n + 1) []) cs) (hs : cs.size = n + 1) : OnceS w (W.alloc (.cells cs 4)) p g h W.heap.size (List.replicate n []) n 0 := by
  have h1 := H.1.lt
  refine ⟨H.below ((Below.refl _ _).alloc (Nat.le_refl _) _), tk_new hT hs, H.2.1.size, by omega, by omega, by omega, List.length_replicate, ?_⟩
  unfold freeN
  rw [List.countP_replicate, Nat.zero_add]
  rfl

end Go.Proofs.Ytfolnccpnncmiaa

/-
  FdsEnds: the law's calls, over what the law knows: the state of the calls, of the ends, and of the names.
-/
import Derived.Test.YtemologkibcdoaaGreatDoorFdEnd2
namespace Go.Proofs.YtemologkibcdoaaGreatDoor
open Go.RowKit Go.Maps

/-- A call of the law's keeps what the law has of its own. -/
theorem ls_do {w : World} {f q nb n x m k b : Nat} {B : Bas} {Z : Nat → Prop} {sb : List Nat} (D : DoG w f q Z nb n B x sb m) (hb : sb[k]? = some b) (hn : n ≤ 7000) (o : Op16) (ok : o.ok) (ht : o.text.length ≤ 500) : Calls Tryz.prog 10 #[.pointer (some ⟨b, 0, none⟩), .agg #[.int .i64 o.set, .int .i64 o.ask, .int .i64 o.fd, .int .i64 o.n, .string (BA o.text)]] w fun e w' => (∃ v, e = .returned v) ∧ Hid (DoG w' f q Z nb (n + 16) B x sb m ∧ GrownS w w' Z) := by
  obtain ⟨A, H, L, F, K, I⟩ := D
  obtain ⟨l, hl⟩ : ∃ l, A.st[k]? = some l := ⟨_, List.getElem?_eq_getElem (by rw [← F.li.len]; exact (List.getElem?_eq_some_iff.1 hb).1)⟩
  refine (do16_any F.rebased hb hl K hn I o ok ht).mono (fun e w' h => ⟨h.1, hide ?_⟩)
  obtain ⟨A', H', L', G, K', I'⟩ := unhide h.2
  exact ⟨⟨A', H', L', (F.back G).1, K', I'⟩, (F.back G).2⟩
theorem ls_fork {w : World} {f q nb n x m k b : Nat} {B : Bas} {Z : Nat → Prop} {sb : List Nat} (D : DoG w f q Z nb n B x sb m) (hb : sb[k]? = some b) (hn : n ≤ 7000) : Calls Tryz.prog 9 #[.pointer (some ⟨b, 0, none⟩)] w fun e w' => e = .returned (.pointer (some ⟨w.heap.size, 0, none⟩)) ∧ Hid (DoG w' f q Z nb (n + 16) B x (sb ++ [w.heap.size]) m ∧ GrownS w w' Z) := by
  obtain ⟨A, H, L, F, K, I⟩ := D
  obtain ⟨l, hl⟩ : ∃ l, A.st[k]? = some l := ⟨_, List.getElem?_eq_getElem (by rw [← F.li.len]; exact (List.getElem?_eq_some_iff.1 hb).1)⟩
  refine (sfork_any F.rebased hb hl K (by omega)).mono (fun e w' h => ⟨h.1, hide ?_⟩)
  obtain ⟨⟨H', G⟩, K'⟩ := unhide h.2
  exact ⟨⟨_, H', L, (F.back G).1, K', ei_frk I k⟩, (F.back G).2⟩
theorem ls_open {w : World} {f q nb n x m : Nat} {B : Bas} {Z : Nat → Prop} {sb : List Nat} (D : DoG w f q Z nb n B x sb m) : ∃ c : Nat, c ≤ 16 * sb.length ∧ Calls Tryz.prog 11 #[.pointer (some ⟨x, 0, none⟩)] w fun e w' => e = .returned (.int .i64 (c : Int)) ∧ w' = w := by
  obtain ⟨A, H, L, F, K, I⟩ := D
  exact ⟨openA A, by rw [F.li.len]; exact open_le K, xopen_any F⟩
/-- So many sets have ended. -/
def DoE (w : World) (f q : Nat) (Z : Nat → Prop) (nb n : Nat) (B : Bas) (x : Nat) (sb : List Nat) (m j : Nat) : Prop := ∃ A H L, FH w f q Z A nb n B x sb H L ∧ AOk A n ∧ EI A m ∧ EndUp A j
theorem DoG.ends {w : World} {f q nb n x m : Nat} {B : Bas} {Z : Nat → Prop} {sb : List Nat} (D : DoG w f q Z nb n B x sb m) : DoE w f q Z nb n B x sb m 0 := by
  obtain ⟨A, H, L, F, K, I⟩ := D
  exact ⟨A, H, L, F, K, I, fun k l hk => absurd hk (Nat.not_lt_zero k)⟩
theorem DoE.below {w w' : World} {f q nb n x m j : Nat} {B : Bas} {Z : Nat → Prop} {sb : List Nat} (D : DoE w f q Z nb n B x sb m j) (hb : Below w.heap.size w w') : DoE w' f q Z nb n B x sb m j := by
  obtain ⟨A, H, L, F, K, I, E⟩ := D
  exact ⟨A, H, L, F.below hb, K, I, E⟩
theorem DoG.below {w w' : World} {f q nb n x m : Nat} {B : Bas} {Z : Nat → Prop} {sb : List Nat} (D : DoG w f q Z nb n B x sb m) (hb : Below w.heap.size w w') : DoG w' f q Z nb n B x sb m := by
  obtain ⟨A, H, L, F, K, I⟩ := D
  exact ⟨A, H, L, F.below hb, K, I⟩
/-- What the law makes of its own in between is not turned. -/
theorem DoG.renew {w w1 : World} {f q nb n x m : Nat} {B : Bas} {Z : Nat → Prop} {sb : List Nat} (D : DoG w f q Z nb n B x sb m) (hb : Below w.heap.size w w1) : DoG w1 f q (Zup w w1 Z) nb n B x sb m := by
  obtain ⟨A, H, L, F, K, I⟩ := D
  exact ⟨A, H, L, F.renew hb, K, I⟩
theorem ls_end {w : World} {f q nb n x m j b : Nat} {B : Bas} {Z : Nat → Prop} {sb : List Nat} (D : DoE w f q Z nb n B x sb m j) (hb : sb[j]? = some b) (hn : n ≤ 8000) : Calls Tryz.prog 12 #[.pointer (some ⟨b, 0, none⟩)] w fun e w' => e = .returned (.tuple #[]) ∧ Hid (DoE w' f q Z nb (n + 16) B x sb m (j + 1) ∧ GrownS w w' Z) := by
  obtain ⟨A, H, L, F, K, I, E⟩ := D
  obtain ⟨l, hl⟩ : ∃ l, A.st[j]? = some l := ⟨_, List.getElem?_eq_getElem (by rw [← F.li.len]; exact (List.getElem?_eq_some_iff.1 hb).1)⟩
  refine (send_any F.rebased hb hl K hn).mono (fun e w' h => ⟨h.1, hide ?_⟩)
  obtain ⟨⟨H', G⟩, K', hE⟩ := unhide h.2
  exact ⟨⟨_, H', L, (F.back G).1, K', ei_end I j, E.step K hl hE⟩, (F.back G).2⟩
theorem ls_list {w : World} {f q nb n x m j b : Nat} {B : Bas} {Z : Nat → Prop} {sb : List Nat} (D : DoE w f q Z nb n B x sb m (j + 1)) (hb : sb[j]? = some b) : Calls Tryz.prog 13 #[.pointer (some ⟨b, 0, none⟩)] w fun e w' => ∃ ad cap, e = .returned (.slice ad 0 cap) ∧ Hid (Below w.heap.size w w') := by
  obtain ⟨A, H, L, F, K, I, E⟩ := D
  obtain ⟨l, hl⟩ : ∃ l, A.st[j]? = some l := ⟨_, List.getElem?_eq_getElem (by rw [← F.li.len]; exact (List.getElem?_eq_some_iff.1 hb).1)⟩
  refine (slist_any F hb hl).mono (fun e w' h => ?_)
  obtain ⟨v, h1, h2⟩ := h
  obtain ⟨h3, h4⟩ := unhide h2
  rw [numsL_none (E j l (by omega) hl)] at h3
  obtain ⟨ad, cap, rfl, _⟩ := h3
  exact ⟨ad, cap, h1, hide h4⟩
/-- All sets have ended: the tree alone is left, and no node is held. -/
def DoT (w : World) (f q : Nat) (Y : Nat → Prop) (nb n : Nat) (B : Bas) (m : Nat) (l : List Nm) : Prop := ∃ s, FX w f q Y s nb n B ∧ ES s (fun _ => 0) m ∧ s.L = l
theorem DoE.all {w : World} {f q nb n x m j : Nat} {B : Bas} {Z : Nat → Prop} {sb : List Nat} (D : DoE w f q Z nb n B x sb m j) (hj : sb.length ≤ j) : (Calls Tryz.prog 11 #[.pointer (some ⟨x, 0, none⟩)] w fun e w' => e = .returned (.int .i64 0) ∧ w' = w) ∧ ∃ Y l, DoT w f q Y nb n B m l := by
  obtain ⟨A, H, L, F, K, I, E⟩ := D
  have h0 := free_all K (fun k l hl => E k l (by
    have := (List.getElem?_eq_some_iff.1 hl).1
    rw [← F.li.len] at this
    omega) hl)
  refine ⟨?_, _, _, A.s, F.mx.fx, ?_, rfl⟩
  · have := xopen_any F
    rw [open_none h0] at this
    exact this
  · have e : usA A = fun _ => 0 := funext fun i => us_zero h0 I.clo i
    rw [← e]
    exact I.es

end Go.Proofs.YtemologkibcdoaaGreatDoor

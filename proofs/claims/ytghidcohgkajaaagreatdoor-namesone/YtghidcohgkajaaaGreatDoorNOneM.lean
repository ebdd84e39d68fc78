/-
  NamesOne in memory: the tree goes on while a row and a call's own cells stay.
-/
import Derived.Test.YtghidcohgkajaaaGreatDoorM23
import Derived.Test.YtghidcohgkajaaaGreatDoorNOneP
namespace Go.Proofs.YtghidcohgkajaaaGreatDoor
open Go.RowKit Go.Maps

theorem FX.onward {w W0 wr w4 : World} {f q nb n ob : Nat} {Y : Nat → Prop} {s : NS} (H : FX wr f q Y s nb n (Bas.of W0)) (hb : Below wr.heap.size wr w4) (E : EnvB W0 (Bas.of w)) (hob : ob < W0.heap.size) (hlo : w.heap.size ≤ ob) (hf : W0.heap.size ≤ f) (i : Nat) (v : Value) : ∃ Y5, FX (w4.setCell ⟨ob, i, none⟩ v) f q Y5 s nb n ⟨w, w4.setCell ⟨ob, i, none⟩ v, Y5⟩ ∧ (∀ k, wr.heap.size ≤ k → k < w4.heap.size → ¬ Y5 k) ∧ (∀ k, Y5 k → W0.heap.size ≤ k) := by
  have h := H.renew hb
  have hyb : ∀ k, (fun k => Upto wr Y k ∨ w4.heap.size ≤ k) k → W0.heap.size ≤ k := fun k hk => (h.nd.yb k hk).1
  have hg : GrownS w4 (w4.setCell ⟨ob, i, none⟩ v) (fun k => k = ob) := GrownS.of (grown_setCell w4 ⟨ob, i, none⟩ v) (fun k e => by injection e)
  have hs : (w4.setCell ⟨ob, i, none⟩ v).heap.size = w4.heap.size := by simp
  have hw4 : Below W0.heap.size W0 w4 := h.nd.env.bel
  have hw : Below w.heap.size w (w4.setCell ⟨ob, i, none⟩ v) := (E.bel.trans (hw4.mono E.bel.size)).trans (hg.below (Nat.le_trans E.bel.size hw4.size) (fun k e => by rw [e]; exact hlo))
  refine ⟨_, ⟨⟨h.nd.at'.grownS hg (fun k _ hk e => ?_), h.nd.ok, ⟨E.1, hw, grownS_of_below (Below.refl _ _), fun k hk => .inr (by rw [← hs]; exact hk)⟩, fun k hk => ⟨?_, hk⟩⟩, h.blk.grownS hg (fun e => by omega), h.no, fun k hk => .inr (by rw [← hs]; exact hk)⟩, ?_, hyb⟩
  · have := hyb k hk
    omega
  · have := hyb k hk
    show w.heap.size ≤ k
    omega
  · rintro k h1 h2 (h3 | h3)
    · have := h3.2
      omega
    · omega

end Go.Proofs.YtghidcohgkajaaaGreatDoor

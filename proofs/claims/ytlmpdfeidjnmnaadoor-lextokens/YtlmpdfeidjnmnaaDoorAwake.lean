/-
  The chapter's examples ('awake'): it answers true and writes nothing that was there.
-/
import Derived.Test.YtlmpdfeidjnmnaaDoorRows5
namespace Go.Proofs.YtlmpdfeidjnmnaaDoor
open Go.RowKit

def ex1 : List Tok := [⟨1, ⟨#[97]⟩, 0, ⟨#[]⟩, false⟩, ⟨4, ⟨#[50]⟩, 2, ⟨#[]⟩, false⟩, ⟨2, ⟨#[62]⟩, 3, ⟨#[]⟩, false⟩, ⟨1, ⟨#[98]⟩, 4, ⟨#[]⟩, false⟩]
def ex2 : List Tok := [⟨1, ⟨#[120, 34, 97, 32, 98, 34, 36, 40, 99, 32, 100, 41]⟩, 0, ⟨#[]⟩, false⟩, ⟨2, ⟨#[59, 59]⟩, 12, ⟨#[]⟩, false⟩]
def ex3 : List Tok := [⟨1, ⟨#[97]⟩, 0, ⟨#[]⟩, false⟩, ⟨2, ⟨#[60, 60]⟩, 2, ⟨#[98, 10]⟩, false⟩, ⟨1, ⟨#[69]⟩, 4, ⟨#[]⟩, false⟩, ⟨3, ⟨#[10]⟩, 5, ⟨#[]⟩, false⟩]
def ex4 : List Tok := [⟨1, ⟨#[97]⟩, 0, ⟨#[]⟩, false⟩]
theorem a1 : lexL [97, 32, 50, 62, 98, 32, 35, 32, 99] = (ex1, 0, 0) := by kernel_rfl
theorem a2 : lexL [120, 34, 97, 32, 98, 34, 36, 40, 99, 32, 100, 41, 59, 59] = (ex2, 0, 0) := by kernel_rfl
theorem a3 : lexL [97, 32, 60, 60, 69, 10, 98, 10, 69, 10] = (ex3, 0, 0) := by kernel_rfl
theorem a4 : lexL [97, 32, 39, 98] = (ex4, 2, 11) := by kernel_rfl

theorem lx1 (w : World) (he : Env w) : Calls Tryd.prog 12 #[.string ⟨#[97, 32, 50, 62, 98, 32, 35, 32, 99]⟩] w fun e w' => ∃ v, e = .returned (.tuple #[v, .int .i64 0, .int .i64 0]) ∧ Below w.heap.size w w' ∧ TRow w' v ex1 := by
  have := lex_env ⟨#[97, 32, 50, 62, 98, 32, 35, 32, 99]⟩ w (by decide) he
  rwa [show (⟨#[97, 32, 50, 62, 98, 32, 35, 32, 99]⟩ : ByteArray).data.toList = [97, 32, 50, 62, 98, 32, 35, 32, 99] from rfl, a1] at this
theorem lx2 (w : World) (he : Env w) : Calls Tryd.prog 12 #[.string ⟨#[120, 34, 97, 32, 98, 34, 36, 40, 99, 32, 100, 41, 59, 59]⟩] w fun e w' => ∃ v, e = .returned (.tuple #[v, .int .i64 0, .int .i64 0]) ∧ Below w.heap.size w w' ∧ TRow w' v ex2 := by
  have := lex_env ⟨#[120, 34, 97, 32, 98, 34, 36, 40, 99, 32, 100, 41, 59, 59]⟩ w (by decide) he
  rwa [show (⟨#[120, 34, 97, 32, 98, 34, 36, 40, 99, 32, 100, 41, 59, 59]⟩ : ByteArray).data.toList = [120, 34, 97, 32, 98, 34, 36, 40, 99, 32, 100, 41, 59, 59] from rfl, a2] at this
theorem lx3 (w : World) (he : Env w) : Calls Tryd.prog 12 #[.string ⟨#[97, 32, 60, 60, 69, 10, 98, 10, 69, 10]⟩] w fun e w' => ∃ v, e = .returned (.tuple #[v, .int .i64 0, .int .i64 0]) ∧ Below w.heap.size w w' ∧ TRow w' v ex3 := by
  have := lex_env ⟨#[97, 32, 60, 60, 69, 10, 98, 10, 69, 10]⟩ w (by decide) he
  rwa [show (⟨#[97, 32, 60, 60, 69, 10, 98, 10, 69, 10]⟩ : ByteArray).data.toList = [97, 32, 60, 60, 69, 10, 98, 10, 69, 10] from rfl, a3] at this
theorem lx4 (w : World) (he : Env w) : Calls Tryd.prog 12 #[.string ⟨#[97, 32, 39, 98]⟩] w fun e w' => ∃ v, e = .returned (.tuple #[v, .int .i64 2, .int .i64 11]) ∧ Below w.heap.size w w' ∧ TRow w' v ex4 := by
  have := lex_env ⟨#[97, 32, 39, 98]⟩ w (by decide) he
  rwa [show (⟨#[97, 32, 39, 98]⟩ : ByteArray).data.toList = [97, 32, 39, 98] from rfl, a4] at this

/-- Where a row of n tokens lies. -/
theorem TRow.at {w : World} {v : Value} {ts : List Tok} (h : TRow w v ts) {n : Nat} (hn : ts.length = n) (h0 : 0 < n) : ∃ g cap, v = .slice (some ⟨g, 0, none⟩) n cap ∧ ∀ (i : Nat) (t : Tok), ts[i]? = some t → ∀ j x, t.cells[j]? = some x → j < 5 → w.cell? ⟨g, 5 * i + j, none⟩ = some x := by
  obtain ⟨ad, cap, h1, h2⟩ := h.shape
  obtain ⟨t0, ht0⟩ : ∃ t, ts[0]? = some t := ⟨_, List.getElem?_eq_getElem (by omega)⟩
  obtain ⟨g, hg, _, _⟩ := h2 0 t0 ht0
  subst hg
  refine ⟨g, cap, by rw [h1, hn], fun i t hi j x hx hj => ?_⟩
  obtain ⟨g', hg', _, h5⟩ := h2 i t hi
  have : g = g' := by simpa using hg'
  subst this
  exact h5 j x hx hj

set_option maxRecDepth 20000 in
set_option maxHeartbeats 8000000 in
theorem awake_any (w : World) (he : Env w) : Calls Tryd.prog 9 #[] w fun e w' => e = .returned (.bool true) ∧ Below w.heap.size w w' := by
  have HE0 := hide he
  clear he
  go_enter Tryd.func9, Tryd.ntmps9
  go_wp2_with fail
  refine (lx1 w (unhide HE0)).mono ?_
  rintro e w1 ⟨v1, rfl, b1, r1⟩
  have B1 := hide b1
  have R1 := hide r1
  have HE1 := hide ((unhide HE0).below b1 (Nat.le_refl _))
  clear b1 r1
  go_wp2_with fail
  refine (lx2 w1 (unhide HE1)).mono ?_
  rintro e w2 ⟨v2, rfl, b2, r2⟩
  have B2 := hide b2
  have R2 := hide r2
  have HE2 := hide ((unhide HE1).below b2 (Nat.le_refl _))
  clear b2 r2
  go_wp2_with fail
  refine (lx3 w2 (unhide HE2)).mono ?_
  rintro e w3 ⟨v3, rfl, b3, r3⟩
  have B3 := hide b3
  have R3 := hide r3
  have HE3 := hide ((unhide HE2).below b3 (Nat.le_refl _))
  clear b3 r3
  go_wp2_with fail
  refine (lx4 w3 (unhide HE3)).mono ?_
  rintro e w4 ⟨v4, rfl, b4, r4⟩
  have hr1 := ((((unhide R1).below (unhide B2) (Nat.le_refl _)).below (unhide B3) (Nat.le_refl _)).below b4 (Nat.le_refl _))
  have hr2 := (((unhide R2).below (unhide B3) (Nat.le_refl _)).below b4 (Nat.le_refl _))
  have hr3 := ((unhide R3).below b4 (Nat.le_refl _))
  obtain ⟨g1, k1, rfl, c1⟩ := hr1.at (n := 4) rfl (by decide)
  obtain ⟨g2, k2, rfl, c2⟩ := hr2.at (n := 2) rfl (by decide)
  obtain ⟨g3, k3, rfl, c3⟩ := hr3.at (n := 4) rfl (by decide)
  obtain ⟨g4, k4, rfl, c4⟩ := r4.at (n := 1) rfl (by decide)
  have d1 : w4.cell? ⟨g1, 5, none⟩ = some (.int .i64 4) := c1 1 _ rfl 0 _ rfl (by decide)
  have d2 : w4.cell? ⟨g1, 11, none⟩ = some (.string ⟨#[62]⟩) := c1 2 _ rfl 1 _ rfl (by decide)
  have d3 : w4.cell? ⟨g2, 6, none⟩ = some (.string ⟨#[59, 59]⟩) := c2 1 _ rfl 1 _ rfl (by decide)
  have d4 : w4.cell? ⟨g3, 8, none⟩ = some (.string ⟨#[98, 10]⟩) := c3 1 _ rfl 3 _ rfl (by decide)
  have HB : Hid (Below w.heap.size w w4) := hide ((unhide B1).trans (((unhide B2).mono (unhide B1).size).trans (((unhide B3).mono (Nat.le_trans (unhide B1).size (unhide B2).size)).trans (b4.mono (Nat.le_trans (unhide B1).size (Nat.le_trans (unhide B2).size (unhide B3).size))))))
  clear c1 c2 c3 c4 hr1 hr2 hr3 r4 b4 B1 B2 B3 R1 R2 R3
  go_wp2
  go_ret
  exact ⟨rfl, unhide HB⟩

end Go.Proofs.YtlmpdfeidjnmnaaDoor

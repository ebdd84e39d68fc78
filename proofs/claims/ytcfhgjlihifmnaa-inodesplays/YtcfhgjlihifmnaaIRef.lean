/-
  The document's table: how it lies; Is.
-/
import Derived.Test.YtcfhgjlihifmnaaIHeld
namespace Go.Proofs.Ytcfhgjlihifmnaa
open Go.RowKit Go.Maps

/-- The five cells of a node of the document's. -/
def rcell (h c : Nat) (o : Option Nd) (j : Nat) : Value :=
  match o, j with
  | none, 0 => .int .i64 0
  | none, 1 => .int .i64 0
  | none, 2 => .int .i64 0
  | none, 3 => .string ⟨#[]⟩
  | none, _ => .slice none 0 0
  | some x, 0 => .int .i64 (x.kind : Int)
  | some x, 1 => .int .i64 (x.names : Int)
  | some x, 2 => .int .i64 (x.users : Int)
  | some x, 3 => .string (BA (datOf x))
  | some _, _ => .slice (some ⟨h, 0, none⟩) 64 c
structure RLay where
  r : Nat
  c : Nat
  h : Nat → Nat
  hc : Nat → Nat
/-- Which parts have a block, as a row of bools. -/
def HasRow (w : World) (h : Nat) (f : Nat → Bool) : Prop := ∃ ds, Blk w h 4 ds ∧ 64 ≤ ds.size ∧ ∀ k, k < 64 → ds[k]? = some (.bool (f k))
/-- The nodes of the table, with the node 0 that is none ahead. -/
structure RL (w : World) (q : Nat) (K : RLay) (T : TB) (nb : Nat) : Prop where
  pos : 1 ≤ T.length
  max : T.length ≤ 1024
  tab : Blk w q 69 #[.slice (some ⟨K.r, 0, none⟩) ((T.length + 1 : Nat)) K.c, .int .i64 (nb : Int)]
  row : ∃ cs, Blk w K.r 44 cs ∧ cs.size = K.c * 5 ∧ T.length + 1 ≤ K.c ∧ K.c ≤ maxLen ∧ ∀ (i : Nat) (o : Option Nd), ((none : Option Nd) :: T)[i]? = some o → ∀ j, j < 5 → cs[i * 5 + j]? = some (rcell (K.h i) (K.hc i) o j)
  has : ∀ (i : Nat) (x : Nd), T[i]? = some (some x) → HasRow w (K.h (i + 1)) x.has
  apart : ∀ (i j : Nat) (x y : Nd), T[i]? = some (some x) → T[j]? = some (some y) → i ≠ j → K.h (i + 1) ≠ K.h (j + 1)
structure RLay.In (K : RLay) (T : TB) (q : Nat) (Y : Nat → Prop) : Prop where
  q : Y q
  r : Y K.r
  each : ∀ (i : Nat) (x : Nd), T[i]? = some (some x) → Y (K.h (i + 1))
def RAt (w : World) (q : Nat) (Y : Nat → Prop) (T : TB) (nb : Nat) : Prop := ∃ K, RL w q K T nb ∧ K.In T q Y
theorem HasRow.grownS {w w' : World} {h : Nat} {f : Nat → Bool} {S : Nat → Prop} (H : HasRow w h f) (hg : GrownS w w' S) (hs : ¬ S h) : HasRow w' h f := by
  obtain ⟨ds, h1, h2, h3⟩ := H
  exact ⟨ds, h1.grownS hg hs, h2, h3⟩
theorem RL.lt {w : World} {q nb : Nat} {K : RLay} {T : TB} (H : RL w q K T nb) : K.In T q (fun k => k < w.heap.size) := by
  obtain ⟨cs, hr, _⟩ := H.row
  exact ⟨H.tab.lt, hr.lt, fun i x hi => by obtain ⟨ds, h1, _⟩ := H.has i x hi; exact h1.lt⟩
theorem RL.grownS {w w' : World} {q nb : Nat} {K : RLay} {T : TB} {S : Nat → Prop} (H : RL w q K T nb) (hg : GrownS w w' S) (hin : K.In T q (fun k => ¬ S k)) : RL w' q K T nb := by
  obtain ⟨cs, hr, h2⟩ := H.row
  exact ⟨H.pos, H.max, H.tab.grownS hg hin.q, ⟨cs, hr.grownS hg hin.r, h2⟩, fun i x hi => (H.has i x hi).grownS hg (hin.each i x hi), H.apart⟩
theorem RLay.In.mono {K : RLay} {T : TB} {q : Nat} {X Y : Nat → Prop} (h : K.In T q X) (hxy : ∀ k, X k → Y k) : K.In T q Y := ⟨hxy _ h.q, hxy _ h.r, fun i x hi => hxy _ (h.each i x hi)⟩
theorem RLay.In.and {K : RLay} {T : TB} {q : Nat} {X Y : Nat → Prop} (h : K.In T q X) (h2 : K.In T q Y) : K.In T q (fun k => X k ∧ Y k) := ⟨⟨h.q, h2.q⟩, ⟨h.r, h2.r⟩, fun i x hi => ⟨h.each i x hi, h2.each i x hi⟩⟩
theorem RAt.mono {w : World} {q nb : Nat} {X Y : Nat → Prop} {T : TB} (h : RAt w q X T nb) (hxy : ∀ k, k < w.heap.size → X k → Y k) : RAt w q Y T nb := by
  obtain ⟨K, h1, h2⟩ := h
  exact ⟨K, h1, (h1.lt.and h2).mono (fun k hk => hxy k hk.1 hk.2)⟩
theorem RAt.grownS {w w' : World} {q nb : Nat} {X S : Nat → Prop} {T : TB} (h : RAt w q X T nb) (hg : GrownS w w' S) (hd : ∀ k, k < w.heap.size → X k → ¬ S k) : RAt w' q X T nb := by
  obtain ⟨K, h1, h2⟩ := h
  exact ⟨K, h1.grownS hg ((h1.lt.and h2).mono (fun k hk => hd k hk.1 hk.2)), h2⟩
theorem RAt.below {w w' : World} {q nb : Nat} {X : Nat → Prop} {T : TB} (h : RAt w q X T nb) (hb : Below w.heap.size w w') : RAt w' q X T nb := h.grownS (S := fun _ => False) (grownS_of_below hb) (fun _ _ _ e => e)
theorem RL.ne {w : World} {q nb : Nat} {K : RLay} {T : TB} (H : RL w q K T nb) : q ≠ K.r ∧ ∀ (i : Nat) (x : Nd), T[i]? = some (some x) → K.h (i + 1) ≠ q ∧ K.h (i + 1) ≠ K.r := by
  obtain ⟨cs, hr, _⟩ := H.row
  refine ⟨blk_ne H.tab hr (by decide), fun i x hi => ?_⟩
  obtain ⟨ds, h1, _⟩ := H.has i x hi
  exact ⟨blk_ne h1 H.tab (by decide), blk_ne h1 hr (by decide)⟩
theorem RL.cellN {w : World} {q nb : Nat} {K : RLay} {T : TB} (H : RL w q K T nb) {i : Nat} {o : Option Nd} (hi : T[i]? = some o) {j : Nat} (hj : j < 5) : w.cell? ⟨K.r, (i + 1) * 5 + j, none⟩ = some (rcell (K.h (i + 1)) (K.hc (i + 1)) o j) ∧ w.frozen? ⟨K.r, (i + 1) * 5 + j, none⟩ = false := by
  obtain ⟨cs, hr, h1, h2, h3, h4⟩ := H.row
  exact ⟨hr.cell _ (h4 (i + 1) o hi j hj), hr.frozen _⟩

theorem RL.cell0 {w : World} {q nb : Nat} {K : RLay} {T : TB} (H : RL w q K T nb) {i : Nat} {o : Option Nd} (hi : T[i]? = some o) : w.cell? ⟨K.r, (i + 1) * 5, none⟩ = some (rcell (K.h (i + 1)) (K.hc (i + 1)) o 0) ∧ w.frozen? ⟨K.r, (i + 1) * 5, none⟩ = false := H.cellN hi (j := 0) (by decide)

set_option maxRecDepth 20000 in
set_option maxHeartbeats 1000000 in
theorem ris_any {w : World} {q nb : Nat} {K : RLay} {T : TB} (H : RL w q K T nb) (hgd : ∀ (k : Nat) (x : Nd), T[k]? = some (some x) → 1 ≤ x.kind) (i : Int) (hb : -9223372036854775808 ≤ i ∧ i ≤ 9223372036854775807) :
    Calls Try.prog 43 #[.pointer (some ⟨q, 0, none⟩), .int .i64 i] w fun e w' => e = .returned (.bool (ndAt T i).isSome) ∧ w' = w := by
  have q0 := H.tab.cell 0 rfl
  change _ = some (Value.slice (some ⟨K.r, 0, none⟩) (T.length + 1) K.c) at q0
  have hmx := H.max
  obtain ⟨n, hn⟩ : ∃ n, n = T.length := ⟨_, rfl⟩
  obtain ⟨r, hr⟩ : ∃ r, r = K.r := ⟨_, rfl⟩
  obtain ⟨c, hc⟩ : ∃ c, c = K.c := ⟨_, rfl⟩
  rw [← hn, ← hr, ← hc] at q0
  cases hx : ndAt T i with
  | none =>
    rcases ndAt_none hx with h1 | h1 | ⟨k, rfl, hk, hkn⟩
    · have h2 : ¬ 1 ≤ i := by omega
      clear H hx hn hr hc
      go_enter Try.func43, Try.ntmps43
      go_wp2
      go_ret
      exact ⟨rfl, rfl⟩
    · have h2 : 1 ≤ i := by omega
      have h3 : ¬ i < (n : Int) + 1 := by omega
      clear H hx hn hr hc
      go_enter Try.func43, Try.ntmps43
      go_wp2
      go_ret
      exact ⟨rfl, rfl⟩
    · have c1 := (H.cell0 hk).1
      change _ = some (Value.int .i64 0) at c1
      rw [← hr] at c1
      have h2 : (1 : Int) ≤ (k : Int) + 1 := by omega
      have h3 : (k : Int) + 1 < (n : Int) + 1 := by omega
      clear H hx hk hkn hn hr hc
      go_enter Try.func43, Try.ntmps43
      go_wp2
      go_ret
      exact ⟨rfl, rfl⟩
  | some x =>
    obtain ⟨k, rfl, hk, hkn⟩ := ndAt_some hx
    have c1 := (H.cell0 hk).1
    change _ = some (Value.int .i64 (x.kind : Int)) at c1
    rw [← hr] at c1
    have h2 : (1 : Int) ≤ (k : Int) + 1 := by omega
    have h3 : (k : Int) + 1 < (n : Int) + 1 := by omega
    have h4 := hgd k x hk
    obtain ⟨kd, hkd⟩ : ∃ kd, kd = x.kind := ⟨_, rfl⟩
    rw [← hkd] at c1 h4
    have h5 : (0 : Int) < (kd : Int) := by omega
    clear H hx hk hkn hkd hgd hn hr hc
    go_enter Try.func43, Try.ntmps43
    go_wp2
    go_ret
    exact ⟨ret_bool (by simp; omega), rfl⟩

end Go.Proofs.Ytcfhgjlihifmnaa

/-
  Tokens and their rows in memory: what a pointer to a token, a slice of ranges, a slice of tokens and a slice of bools read as; which blocks a step may turn.
-/
import Derived.Test.YtegaonlpbcpobaaRows
import Derived.WalkKit
import Derived.WalkSpells
import Derived.WalkLawsBesides
import Derived.Below
import Derived.BigQuiet
import Derived.Deep.RegionWith
namespace Go.Proofs.Ytegaonlpbcpobaa
open Go.RowKit

structure Tok where
  kind : Int
  c : Int
  nt : Bool
  rs : List (Int × Int)

/-- Of the blocks that were there none has turned but those from B on, m in number. -/
structure Turns (B m : Nat) (W W' : World) : Prop where
  os : W'.os = W.os
  tape : W'.tape = W.tape
  output : W'.output = W.output
  size : W.heap.size ≤ W'.heap.size
  block : ∀ k, k < W.heap.size → ¬ (B ≤ k ∧ k < B + m) → W'.heap[k]? = W.heap[k]?

theorem Turns.refl (B m : Nat) (W : World) : Turns B m W W := ⟨rfl, rfl, rfl, Nat.le_refl _, fun _ _ _ => rfl⟩
theorem Turns.trans {B m : Nat} {X Y Z : World} (h : Turns B m X Y) (k : Turns B m Y Z) : Turns B m X Z :=
  ⟨k.os.trans h.os, k.tape.trans h.tape, k.output.trans h.output, Nat.le_trans h.size k.size, fun i hi hn => (k.block i (Nat.lt_of_lt_of_le hi h.size) hn).trans (h.block i hi hn)⟩
theorem Turns.wider {B m B' m' : Nat} {X Y : World} (h : Turns B m X Y) (h1 : B' ≤ B) (h2 : B + m ≤ B' + m') : Turns B' m' X Y :=
  ⟨h.os, h.tape, h.output, h.size, fun i hi hn => h.block i hi (fun hc => hn ⟨by omega, by omega⟩)⟩
theorem Turns.of_below {B m : Nat} {X Y : World} (h : Below X.heap.size X Y) : Turns B m X Y :=
  ⟨h.os, h.tape, h.output, h.size, fun i hi _ => h.block i hi⟩
theorem Turns.below {B m n : Nat} {X Y : World} (h : Turns B m X Y) (h1 : n ≤ B) (h2 : n ≤ X.heap.size) : Below n X Y :=
  ⟨h.os, h.tape, h.output, h.size, fun i hi => h.block i (by omega) (by omega)⟩
theorem Turns.drew {B m : Nat} {X Y : World} (h : Turns B m X Y) : Turns B m X Y.drew := ⟨h.os, h.tape, h.output, h.size, h.block⟩
theorem Turns.alloc {B m : Nat} {X Y : World} (h : Turns B m X Y) (o : Obj) : Turns B m X (Y.alloc o) :=
  h.trans (.of_below ((Below.refl _ _).alloc (Nat.le_refl _) o))
theorem Turns.setCell {B m : Nat} {X Y : World} (h : Turns B m X Y) {p : Addr} (h1 : B ≤ p.block) (h2 : p.block < B + m) (u : Value) : Turns B m X (Y.setCell p u) :=
  h.trans ⟨rfl, rfl, rfl, by simp, fun i _ hn => Below.heap_setCell _ _ _ _ (fun e => hn (by subst e; exact ⟨h1, h2⟩))⟩
/-- What was written into a block that was not there then turns nothing. -/
theorem Turns.setCell_new {B m : Nat} {X Y : World} (h : Turns B m X Y) {p : Addr} (h1 : X.heap.size ≤ p.block) (u : Value) : Turns B m X (Y.setCell p u) :=
  ⟨h.os, h.tape, h.output, by simpa using h.size, fun i hi hn => (Below.heap_setCell _ _ _ _ (by omega)).trans (h.block i hi hn)⟩
theorem Turns.cell {B m : Nat} {X Y : World} (h : Turns B m X Y) {p : Addr} (h1 : p.block < X.heap.size) (h2 : ¬ (B ≤ p.block ∧ p.block < B + m)) : Y.cell? p = X.cell? p :=
  World.cell?_of_block (w := X) (h.block p.block h1 h2)
theorem Turns.frozen {B m : Nat} {X Y : World} (h : Turns B m X Y) {p : Addr} (h1 : p.block < X.heap.size) (h2 : ¬ (B ≤ p.block ∧ p.block < B + m)) : Y.frozen? p = X.frozen? p :=
  World.frozen?_of_block (w := X) (h.block p.block h1 h2)

/-- A cell that is there lies in a block that is there. -/
theorem cell_lt {W : World} {p : Addr} {v : Value} (h : W.cell? p = some v) : p.block < W.heap.size := by
  rcases Nat.lt_or_ge p.block W.heap.size with h' | h'
  · exact h'
  · unfold World.cell? at h
    rw [Array.getElem?_eq_none h'] at h
    cases h

/-- A slice of ranges, in blocks below n. -/
def RowR (n : Nat) (W : World) (v : Value) (rs : List (Int × Int)) : Prop :=
  ∃ (a : Option Addr) (cap : Nat), v = .slice a rs.length cap ∧ rs.length ≤ cap ∧ rs.length ≤ 9223372036854775807 ∧ (rs = [] ∨ ∃ b o, a = some ⟨b, o, none⟩ ∧ b < n ∧
    ∀ j (hj : j < rs.length), W.cell? ⟨b, o + j * 2, none⟩ = some (.int .u8 rs[j].1) ∧ W.cell? ⟨b, o + j * 2 + 1, none⟩ = some (.int .u8 rs[j].2))

theorem RowR.below {n : Nat} {W W' : World} {v : Value} {rs : List (Int × Int)} (h : RowR n W v rs) (hb : Below n W W') : RowR n W' v rs := by
  obtain ⟨a, cap, rfl, hc, hm, h⟩ := h
  refine ⟨a, cap, rfl, hc, hm, ?_⟩
  rcases h with h | ⟨b, o, rfl, hlt, hcell⟩
  · exact .inl h
  · exact .inr ⟨b, o, rfl, hlt, fun j hj => ⟨(hb.cell (p := ⟨b, o + j * 2, none⟩) hlt).trans (hcell j hj).1, (hb.cell (p := ⟨b, o + j * 2 + 1, none⟩) hlt).trans (hcell j hj).2⟩⟩
theorem RowR.mono {n m : Nat} {W : World} {v : Value} {rs : List (Int × Int)} (h : RowR n W v rs) (hn : n ≤ m) : RowR m W v rs := by
  obtain ⟨a, cap, rfl, hc, hm, h⟩ := h
  refine ⟨a, cap, rfl, hc, hm, ?_⟩
  rcases h with h | ⟨b, o, rfl, hlt, hcell⟩
  · exact .inl h
  · exact .inr ⟨b, o, rfl, by omega, hcell⟩
/-- A row of ranges lies on where all blocks but some that it doesn't lie in do. -/
theorem RowR.turns {n B m : Nat} {W W' : World} {v : Value} {rs : List (Int × Int)} (h : RowR n W v rs) (hb : Turns B m W W') (hn : n ≤ B) (hs : n ≤ W.heap.size) : RowR n W' v rs :=
  h.below (hb.below hn hs)

/-- The four cells of a token. -/
structure TokCells (W : World) (b o : Nat) (v : Value) (t : Tok) : Prop where
  k0 : W.cell? ⟨b, o, none⟩ = some (.int .i64 t.kind)
  k1 : W.cell? ⟨b, o + 1, none⟩ = some (.int .u8 t.c)
  k2 : W.cell? ⟨b, o + 2, none⟩ = some (.bool t.nt)
  k3 : W.cell? ⟨b, o + 3, none⟩ = some v

/-- A token at an address, its ranges below n. -/
structure TokAt (n : Nat) (W : World) (b o : Nat) (v : Value) (t : Tok) : Prop extends TokCells W b o v t where
  row : RowR n W v t.rs

theorem TokCells.lt {W : World} {b o : Nat} {v : Value} {t : Tok} (h : TokCells W b o v t) : b < W.heap.size := cell_lt h.k0
theorem TokCells.of_block {W W' : World} {b o : Nat} {v : Value} {t : Tok} (h : TokCells W b o v t) (hb : W'.heap[b]? = W.heap[b]?) : TokCells W' b o v t :=
  ⟨(World.cell?_of_block (w := W) (a := ⟨b, o, none⟩) hb).trans h.k0, (World.cell?_of_block (w := W) (a := ⟨b, o + 1, none⟩) hb).trans h.k1,
    (World.cell?_of_block (w := W) (a := ⟨b, o + 2, none⟩) hb).trans h.k2, (World.cell?_of_block (w := W) (a := ⟨b, o + 3, none⟩) hb).trans h.k3⟩

theorem TokAt.drew {n : Nat} {W : World} {b o : Nat} {v : Value} {t : Tok} (h : TokAt n W b o v t) : TokAt n W.drew b o v t :=
  ⟨h.toTokCells.of_block rfl, h.row.below (Below.refl _ _).drew⟩
theorem below_drew {W W' : World} (h : Below W.drew.heap.size W.drew W') : Below W.heap.size W W' := ⟨h.os, h.tape, h.output, h.size, h.block⟩

/-- Bools in a row of cells. -/
def BoolsAt (W : World) (b o n : Nat) (f : Nat → Bool) : Prop := ∀ j, j < n → W.cell? ⟨b, o + j, none⟩ = some (.bool (f j))
def FreeAt (W : World) (b : Nat) : Prop := ∀ j, W.frozen? ⟨b, j, none⟩ = false

theorem hide {p : Prop} (h : p) : Hid p := h
theorem unhide {p : Prop} (h : Hid p) : p := h
theorem ret_bool {a b : Bool} (h : a = b) : Ending.returned (.bool a) = .returned (.bool b) := by rw [h]
theorem ret_int {k : IntKind} {a b : Int} (h : a = b) : Ending.returned (.int k a) = .returned (.int k b) := by rw [h]

def holdsB (rs : List (Int × Int)) (c : Int) : Bool := rs.any fun r => decide (r.1 ≤ c) && decide (c ≤ r.2)
theorem holdsB_take (rs : List (Int × Int)) (c : Int) (k : Nat) (h : k < rs.length) : holdsB (rs.take (k + 1)) c = (holdsB (rs.take k) c || (decide (rs[k].1 ≤ c) && decide (c ≤ rs[k].2))) := by
  unfold holdsB
  rw [← List.take_append_getElem h, List.any_append]
  simp
theorem holdsB_hit {rs : List (Int × Int)} {c : Int} {k : Nat} (h : k < rs.length) (h1 : rs[k].1 ≤ c) (h2 : c ≤ rs[k].2) : holdsB rs c = true := by
  unfold holdsB
  rw [List.any_eq_true]
  exact ⟨rs[k], List.getElem_mem h, by simp [h1, h2]⟩

set_option maxHeartbeats 1000000 in
theorem holds_any (n b o : Nat) (v : Value) (t : Tok) (c : Int) (w : World) (ht : TokAt n w b o v t) (hn : n ≤ w.heap.size) :
    Calls Try.prog 41 #[.pointer (some ⟨b, o, none⟩), .int .u8 c] w fun e w' => e = .returned (.bool (holdsB t.rs c)) ∧ Below w.heap.size w w' := by
  obtain ⟨⟨_, _, _, k3⟩, row⟩ := ht
  obtain ⟨a, cap, rfl, _, hm, hr⟩ := row
  go_enter Try.func41, Try.ntmps41
  go_wp2
  go_loopw [12] (fun i wr => ∃ (k : Nat), k ≤ t.rs.length ∧ i = .int .i64 k ∧ holdsB (t.rs.take k) c = false ∧ Below w.heap.size w wr) (fun i _ => t.rs.length - (intOf i).toNat)
  case atStart => exact ⟨0, Nat.zero_le _, rfl, rfl, Below.refl _ _⟩
  case round =>
    obtain ⟨k, hk, rfl, hx, hbel⟩ := hrel
    have HX := hide hx
    have HB := hide hbel
    by_cases hlt : k < t.rs.length
    · rcases hr with hr | ⟨gb, go, rfl, hg, hcell⟩
      · simp [hr] at hlt
      have c0 := (hbel.cell (p := ⟨gb, go + k * 2, none⟩) (by simp; omega)).trans (hcell k hlt).1
      have c1 := (hbel.cell (p := ⟨gb, go + k * 2 + 1, none⟩) (by simp; omega)).trans (hcell k hlt).2
      clear hcell hx hbel
      by_cases h1 : t.rs[k].1 ≤ c
      · by_cases h2 : c ≤ t.rs[k].2
        · go_wp2
          go_ret
          exact ⟨ret_bool (holdsB_hit hlt h1 h2).symm, (unhide HB).alloc (unhide HB).size _⟩
        · go_wp2
          go_roundw
          case rel => exact ⟨k + 1, by omega, by go_num, by rw [holdsB_take _ _ _ hlt, unhide HX]; simp [h2], (unhide HB).alloc (unhide HB).size _⟩
          case measure => simp [intOf]; omega
      · go_wp2
        go_roundw
        case rel => exact ⟨k + 1, by omega, by go_num, by rw [holdsB_take _ _ _ hlt, unhide HX]; simp [h1], (unhide HB).alloc (unhide HB).size _⟩
        case measure => simp [intOf]; omega
    · clear hx hbel
      go_wp2
      go_ret
      have hz := unhide HX
      rw [List.take_of_length_le (by omega)] at hz
      exact ⟨ret_bool hz.symm, unhide HB⟩

def fitsB (t : Tok) (c : Int) : Bool :=
  if t.kind = 1 then decide (c = t.c) else if t.kind = 2 then true else if t.kind = 4 then holdsB t.rs c != t.nt else false

set_option maxHeartbeats 1000000 in
theorem fits_any (n b o : Nat) (v : Value) (t : Tok) (c : Int) (w : World) (ht : TokAt n w b o v t) (hn : n ≤ w.heap.size) :
    Calls Try.prog 39 #[.pointer (some ⟨b, o, none⟩), .int .u8 c] w fun e w' => e = .returned (.bool (fitsB t c)) ∧ Below w.heap.size w w' := by
  have HT := hide ht
  obtain ⟨⟨k0, k1, k2, k3⟩, _⟩ := ht
  have hlt := cell_lt k2
  by_cases h1 : t.kind = 1
  · go_enter Try.func39, Try.ntmps39
    go_wp2
    go_ret
    exact ⟨ret_bool (by unfold fitsB; simp [h1]; rw [Bool.eq_iff_iff]; simp), Below.refl _ _⟩
  by_cases h2 : t.kind = 2
  · go_enter Try.func39, Try.ntmps39
    go_wp2
    go_ret
    exact ⟨ret_bool (by unfold fitsB; simp [h2]), Below.refl _ _⟩
  by_cases h4 : t.kind = 4
  · go_enter Try.func39, Try.ntmps39
    go_wp2
    go_region_with (go_at_call 41; refine (holds_any n b o v t c w.drew (unhide HT).drew hn).mono ?_; rintro e w1 ⟨rfl, b1⟩; have k2' := (b1.cell (p := ⟨b, o + 2, none⟩) hlt).trans k2)
    all_goals
      go_wp2
      go_ret
      exact ⟨ret_bool (by unfold fitsB; rw [if_neg h1, if_neg h2, if_pos h4]; cases holdsB t.rs c <;> cases t.nt <;> rfl), below_drew b1⟩
  · go_enter Try.func39, Try.ntmps39
    go_wp2
    go_ret
    exact ⟨ret_bool (by unfold fitsB; simp [h1, h2, h4]), Below.refl _ _⟩

end Go.Proofs.Ytegaonlpbcpobaa

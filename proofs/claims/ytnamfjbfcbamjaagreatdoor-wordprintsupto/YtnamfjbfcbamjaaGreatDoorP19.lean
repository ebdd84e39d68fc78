/-
  Package word's pens.
  The document's part: what it answers, plainly.
-/
import Derived.Test.YtnamfjbfcbamjaaGreatDoorP18
import Derived.Test.YtnamfjbfcbamjaaGreatDoorP08
import Derived.Test.YtnamfjbfcbamjaaGreatDoorP09
namespace Go.Proofs.YtnamfjbfcbamjaaGreatDoor
open Go.RowKit
def penL : Nat → Nat
  | 0 => 34
  | 1 => 72
  | 2 => 73
  | _ => 37
def penI (k : Nat) : Nat := if k = 0 then 35 else 38
def penC (k : Nat) : Array Value := #[.func (Fn.func (penL k)) #[] #[], .string (BA (mrkT k)), .func (Fn.func (penI k)) #[] #[]]
theorem penL_any (k : Nat) (hk : k < 4) (t : List UInt8) (w : World) (he : WEnv w) (ht : t.length ≤ 10000) : Calls Tryz.prog (penL k) #[.string (BA t)] w fun e w' => e = .returned (.string (BA (litT k t))) ∧ Below w.heap.size w w' := by
  match k, hk with
  | 0, _ =>
    obtain ⟨m, hm⟩ := he.max
    have := quote_any (BA t) w m hm (by simpa using ht)
    rw [show (BA t).data.toList = t by simp] at this
    exact this
  | 1, _ => exact dq_any t w ht
  | 2, _ => exact bq_any t w ht
  | 3, _ => exact pq_any t w ht
set_option maxHeartbeats 1000000 in
theorem pen1_any (w : World) : Calls Tryz.prog 58 #[] w fun e w' => e = .returned (.agg (penC 1)) ∧ Below w.heap.size w w' := by
  go_enter Tryz.func58, Tryz.ntmps58
  go_wp2
  exact bodyPost_ret (v := .agg (penC 1)) (results_pen rfl _ _ w.heap.size _ _ _ rfl (Blk.new w _ _)) rfl ⟨rfl, (Below.refl _ _).alloc (Nat.le_refl _) _⟩
set_option maxHeartbeats 1000000 in
theorem pen2_any (w : World) : Calls Tryz.prog 59 #[] w fun e w' => e = .returned (.agg (penC 2)) ∧ Below w.heap.size w w' := by
  go_enter Tryz.func59, Tryz.ntmps59
  go_wp2
  exact bodyPost_ret (v := .agg (penC 2)) (results_pen rfl _ _ w.heap.size _ _ _ rfl (Blk.new w _ _)) rfl ⟨rfl, (Below.refl _ _).alloc (Nat.le_refl _) _⟩
set_option maxHeartbeats 1000000 in
theorem pen3_any (w : World) : Calls Tryz.prog 23 #[] w fun e w' => e = .returned (.agg (penC 3)) ∧ Below w.heap.size w w' := by
  go_enter Tryz.func23, Tryz.ntmps23
  go_wp2
  exact bodyPost_ret (v := .agg (penC 3)) (results_pen rfl _ _ w.heap.size _ _ _ rfl (Blk.new w _ _)) rfl ⟨rfl, (Below.refl _ _).alloc (Nat.le_refl _) _⟩
theorem pen0_any (w : World) : Calls Tryz.prog 21 #[] w fun e w' => e = .returned (.agg (penC 0)) ∧ Below w.heap.size w w' := plainPen_any w
end Go.Proofs.YtnamfjbfcbamjaaGreatDoor
namespace Go.Proofs.YtnamfjbfcbamjaaGreatDoor
open Go.RowKit
def RWdN (N : Nat) : Prop := ∀ (ps : List Prt) (v : Value) (A : Nat → Prop) (w : World) (k y : Nat), wayR k y → SizeOf.sizeOf ps ≤ N → WAt w A v ps → (∀ j, A j → j < w.heap.size) → tszL ps ≤ 1000 →
    Calls Tryz.prog 22 #[v, .int .i64 (y : Int)] w fun e w' => ∃ s, e = .returned (.string (BA s)) ∧ Below w.heap.size w w' ∧ (ShA ps → s = wrdT k ps) ∧ s.length ≤ 9 * tszL ps
def mrkB (k : Nat) (q : Bool) : Bool := q && decide (k ≤ 1)
def nxtR (y : Nat) (q : Bool) (op : Int) : Nat := if q = false ∧ (y = 0 ∨ y = 1) then 1 else if 6 ≤ op then 4 else 3
theorem nxtR_way {k y : Nat} (h : wayR k y) (q : Bool) (op : Int) : wayR (nxtT k q op) (nxtR y q op) := by
  unfold nxtT nxtR
  rcases h with ⟨rfl, rfl | rfl⟩ | ⟨rfl, rfl⟩ | ⟨rfl, rfl⟩ | ⟨rfl, rfl⟩ <;> cases q <;> by_cases h6 : 6 ≤ op <;> simp [h6, wayR]
theorem nxtR_nb (y : Nat) (q : Bool) (op : Int) : nxtR y q op = if (!q && (y == 0 || y == 1)) then 1 else if 6 ≤ op then 4 else 3 := by
  unfold nxtR
  cases q <;> simp
def mrkd (b : Bool) (d : List UInt8) : List UInt8 := if b then [34] ++ d ++ [34] else d
theorem prtT_is {k : Nat} {kd : Int} {t : List UInt8} {q : Bool} {op : Int} {c : Bool} {s : List Prt} (h : kd ≠ 1) : prtT k (.mk kd t q op c s) = mrkd (mrkB k q) (dolOf kd t op c (wrdT (nxtT k q op) s)) := by
  unfold prtT
  rw [dolT]
  unfold prtOf mrkd mrkB mrkT
  cases q <;> by_cases hk : k ≤ 1 <;> simp [Prt.kind, Prt.quote, h, hk]
theorem mrkd_len (b : Bool) (d : List UInt8) : (mrkd b d).length ≤ d.length + 2 := by unfold mrkd; split <;> simp
theorem ShA_sub {kd : Int} {t : List UInt8} {q : Bool} {op : Int} {c : Bool} {s : List Prt} (h : ShP (.mk kd t q op c s)) : ShA s := by
  cases h with
  | mk k t q o c s h1 h2 h3 h4 h5 h6 h7 h8 hs ha => exact hs
theorem shp_in {kd : Int} {t : List UInt8} {q : Bool} {op : Int} {c : Bool} {s : List Prt} (h : ShP (.mk kd t q op c s)) : 1 ≤ kd ∧ kd ≤ 4 ∧ 0 ≤ op ∧ op ≤ 9 := by
  cases h with
  | mk k t q o c s h1 h2 h3 h4 h5 h6 h7 h8 hs ha => exact ⟨h1, h2, h3, h4⟩
theorem dolOf_dp (t : List UInt8) (op : Int) (c : Bool) (s : List UInt8) (h2 : 2 ≤ op) (h9 : op ≤ 9) : dolOf 2 t op c s = [36, 123] ++ t ++ (if c then [58] else []) ++ opT op ++ s ++ [125] := by
  unfold dolOf
  rw [if_pos rfl, if_neg (by omega), if_neg (by omega), if_pos h2]
  simp
end Go.Proofs.YtnamfjbfcbamjaaGreatDoor

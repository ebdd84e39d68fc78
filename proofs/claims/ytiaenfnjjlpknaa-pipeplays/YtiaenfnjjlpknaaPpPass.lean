/-
  PipePasses: what is read is what was written.
-/
import Derived.Test.YtiaenfnjjlpknaaPpStart
import Derived.Deep.LoopGhost
import Derived.Deep.RegionHeld3
namespace Go.Proofs.Ytiaenfnjjlpknaa
open Go.RowKit

theorem blk_ne {w : World} {a b : Nat} {t u : TypeId} {cs ds : Array Value} (h1 : Blk w a t cs) (h2 : Blk w b u ds) (hne : t ≠ u) : a ≠ b := by
  rintro rfl
  have h3 := (show w.heap[a]? = _ from h1).symm.trans h2
  injection h3 with h3
  injection h3 with _ h4 _
  exact hne h4
def opC (o : Op15) : Array Value := #[.int .i64 o.ask, .int .i64 o.n, .string (BA o.data)]
/-- The call that is played lies at b. -/
def OB (W : World) (b : Nat) (o : Op15) : Prop := Blk W b 28 (opC o)
theorem OB.cells {W : World} {b : Nat} {o : Op15} (H : OB W b o) : W.cell? ⟨b, 0, none⟩ = some (.int .i64 o.ask) ∧ W.cell? ⟨b, 1, none⟩ = some (.int .i64 o.n) ∧ W.cell? ⟨b, 2, none⟩ = some (.string (BA o.data)) :=
  ⟨Blk.cell H 0 rfl, Blk.cell H 1 rfl, Blk.cell H 2 rfl⟩
/-- How far the law is: at the pipe at p, inn was written, out is read. -/
structure Pas (w W : World) (p : Nat) (inn out s : List UInt8) (k : Nat) : Prop where
  hp : Hp w W p ⟨s, 1, 1⟩
  io : inn = out ++ s
  few : inn.length ≤ 64 * k
theorem pas_rdE (s : List UInt8) (n : Int) : rdE ⟨s, 1, 1⟩ n = 0 ∨ (rdE ⟨s, 1, 1⟩ n = 1 ∧ rdT ⟨s, 1, 1⟩ n = []) ∨ (rdE ⟨s, 1, 1⟩ n = 30 ∧ rdT ⟨s, 1, 1⟩ n = [] ∧ s = []) := by
  unfold rdT
  have e : rdE ⟨s, 1, 1⟩ n = if n < 0 then 1 else if s = [] ∧ 0 < 1 ∧ 0 < n then 30 else 0 := rfl
  rw [e]
  by_cases h : n < 0
  · rw [if_pos h]
    exact .inr (.inl ⟨rfl, rfl⟩)
  · rw [if_neg h]
    by_cases h2 : s = [] ∧ 0 < 1 ∧ 0 < n
    · rw [if_pos h2]
      exact .inr (.inr ⟨rfl, rfl, h2.1⟩)
    · rw [if_neg h2]
      exact .inl rfl
theorem Pas.read {w W : World} {p : Nat} {inn out s : List UInt8} {k : Nat} (H : Pas w W p inn out s k) (n : Int) : Calls Try.prog 10 #[.pointer (some ⟨p, 0, none⟩), .int .i64 n] W fun e w' => ∃ (T s' : List UInt8) (E : Int), e = .returned (.tuple #[.string (BA T), .int .i64 E]) ∧ (E = 0 ∨ (E = 1 ∧ T = []) ∨ (E = 30 ∧ T = [] ∧ inn = out)) ∧ T.length ≤ 64 ∧ Hid (Pas w w' p inn (out ++ T) s' k) :=
  (read_hp H.hp n rfl rfl rfl).mono fun e w' ⟨h1, h2⟩ => by
    have hx := pas_rdE s n
    have hy : rdS ⟨s, 1, 1⟩ n = ⟨(rdS ⟨s, 1, 1⟩ n).s, 1, 1⟩ := by
      unfold rdS
      split <;> rfl
    have hs : s = rdT ⟨s, 1, 1⟩ n ++ (rdS ⟨s, 1, 1⟩ n).s := by
      unfold rdT rdS
      by_cases hE : rdE ⟨s, 1, 1⟩ n = 0
      · rw [if_pos hE, if_pos hE]
        exact (List.take_append_drop _ _).symm
      · rw [if_neg hE, if_neg hE]
        rfl
    have hf := H.hp.at'.fit.few
    have hl : (rdT ⟨s, 1, 1⟩ n).length ≤ 64 := by
      have h3 := congrArg List.length hs
      rw [List.length_append] at h3
      have hf : s.length ≤ 64 := hf
      omega
    refine ⟨rdT ⟨s, 1, 1⟩ n, (rdS ⟨s, 1, 1⟩ n).s, rdE ⟨s, 1, 1⟩ n, h1, ?_, hl, hide ⟨by rw [← hy]; exact h2, by rw [List.append_assoc, ← hs]; exact H.io, H.few⟩⟩
    rcases hx with h | h | ⟨h, h4, h5⟩
    · exact .inl h
    · exact .inr (.inl h)
    · exact .inr (.inr ⟨h, h4, by rw [H.io, h5, List.append_nil]⟩)
theorem Pas.write {w W : World} {p : Nat} {inn out s : List UInt8} {k : Nat} (H : Pas w W p inn out s k) {b : Nat} {o : Op15} (hb : OB W b o) (d : List UInt8) : Calls Try.prog 12 #[.pointer (some ⟨p, 0, none⟩), .string (BA d)] W fun e w' => ∃ (N : Nat) (s' : List UInt8) (E : Int), e = .returned (.tuple #[.int .i64 (N : Int), .int .i64 E]) ∧ (E = 0 ∨ (E = 30 ∧ N = 0 ∧ s'.length = 64)) ∧ N ≤ d.length ∧ N ≤ 64 ∧ Hid (Pas w w' p (inn ++ d.take N) out s' (k + 1)) ∧ Hid (OB w' b o) :=
  (write_any H.hp.at' d).mono fun e w' ⟨h1, h2', h3⟩ => by
    have h2 := H.hp.turn h2' h3
    have hob : Hid (OB w' b o) := hide (by
      obtain ⟨_, f, cs, h4⟩ := H.hp.at'
      exact Blk.grownS hb h3 (blk_ne hb h4.blk (by decide)))
    have e1 : wrN ⟨s, 1, 1⟩ d = room ⟨s, 1, 1⟩ d := rfl
    have e2 : wrE ⟨s, 1, 1⟩ d = if room ⟨s, 1, 1⟩ d = 0 ∧ d ≠ [] then 30 else 0 := rfl
    have e3 : wrS ⟨s, 1, 1⟩ d = ⟨s ++ d.take (room ⟨s, 1, 1⟩ d), 1, 1⟩ := rfl
    have hf : s.length ≤ 64 := H.hp.at'.fit.few
    have er : room ⟨s, 1, 1⟩ d = min d.length (64 - s.length) := rfl
    rw [e3] at h2
    refine ⟨_, s ++ d.take (room ⟨s, 1, 1⟩ d), _, h1, ?_, by rw [e1]; omega, by rw [e1]; omega, hide ⟨h2, ?_, ?_⟩, hob⟩
    · rw [e1, e2]
      by_cases h : room ⟨s, 1, 1⟩ d = 0 ∧ d ≠ []
      · rw [if_pos h]
        have hd := List.length_pos_iff.2 h.2
        refine .inr ⟨rfl, h.1, ?_⟩
        rw [List.length_append, List.length_take]
        omega
      · rw [if_neg h]
        exact .inl rfl
    · rw [e1, H.io, List.append_assoc]
    · rw [e1, List.length_append, List.length_take]
      have := H.few
      omega
theorem Pas.len {w W : World} {p : Nat} {inn out s : List UInt8} {k : Nat} (H : Pas w W p inn out s k) : Calls Try.prog 19 #[.pointer (some ⟨p, 0, none⟩)] W fun e w' => e = .returned (.int .i64 (s.length : Int)) ∧ w' = W := len_any H.hp.at'
theorem Pas.below {w W W' : World} {p : Nat} {inn out s : List UInt8} {k : Nat} (H : Pas w W p inn out s k) (hb : Below W.heap.size W W') : Pas w W' p inn out s k := ⟨H.hp.below hb, H.io, H.few⟩

theorem i64_0 : I64 0 := by unfold I64; decide
theorem sum_run (a b : List UInt8) (h : a.length + b.length ≤ 100000) (W : World) : (Op.stringOp .add (BA a) (BA b)).run Try.prog W = .ok (.string (BA (a ++ b))) W := by
  rw [← BA_add]
  exact run_string_add_sum W _ _ (by rw [BA_size, BA_size]; omega)

end Go.Proofs.Ytiaenfnjjlpknaa

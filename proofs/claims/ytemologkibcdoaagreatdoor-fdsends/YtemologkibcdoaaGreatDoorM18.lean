/-
  Directories (stage 13): a walk in pure form, by levels; its bounds.
  Directories (stage 13): through, step.
-/
import Derived.Test.YtemologkibcdoaaGreatDoorM17

/- Directories (stage 13): a walk in pure form, by levels; its bounds. -/
namespace Go.Proofs.YtemologkibcdoaaGreatDoor
open Go.RowKit Go.Maps

/-- What a link's text leads to, at a level. -/
def goF (s : NS) : Nat → Int → List UInt8 → Nat → Int × Int × Nat
  | 0 => fun _ _ r => (0, 27, r)
  | n + 1 => fun a t r => goesN s n a t true r
theorem goes_is (s : NS) (n : Nat) (a : Int) (p : List UInt8) (f : Bool) (r : Nat) : goesN s n a p f r = if p = [] then (0, 23, r) else if 256 < p.length then (0, 3, r) else if p.head? = some 47 then loopN (goF s n) s f (partsOf p.tail) 1 r else loopN (goF s n) s f (partsOf p) a r := by
  cases n <;> rfl
/-- From the root on: the first part of a path that begins with a stroke leads nowhere else. -/
theorem loop_root {s : NS} (H : NInv s) (go : Int → List UInt8 → Nat → Int × Int × Nat) (f : Bool) {p : List UInt8} (hp : p.head? = some 47) (r : Nat) : loopN go s f (partsOf p) 1 r = loopN go s f (partsOf p.tail) 1 r := by
  cases p with
  | nil => cases hp
  | cons c l =>
    have hc : c = 47 := by simpa using hp
    subst hc
    have e : partsOf (47 :: l) = [] :: partsOf l := by
      show (if (47 : UInt8) = 47 then [] :: partsOf l else _) = _
      rw [if_pos rfl]
    rw [e]
    show loopN go s f ([] :: partsOf l) 1 r = loopN go s f (partsOf l) 1 r
    cases hl : partsOf l with
    | nil => exact absurd hl (parts_ne l)
    | cons q qs =>
      have h1 : stepN go s 1 [] true r = (1, 0, r) := by
        unfold stepN
        have : isD s 1 = true := decide_eq_true H.root
        rw [this]
        simp
      show (if (stepN go s 1 [] true r).2.1 ≠ 0 then stepN go s 1 [] true r else loopN go s f (q :: qs) (stepN go s 1 [] true r).1 (stepN go s 1 [] true r).2.2) = _
      rw [h1]
      simp
theorem goes_loop {s : NS} (H : NInv s) {n : Nat} {a : Int} {p : List UInt8} {f : Bool} {r : Nat} (h0 : p ≠ []) (h1 : ¬ 256 < p.length) : goesN s n a p f r = loopN (goF s n) s f (partsOf p) (if p.head? = some 47 then 1 else a) r := by
  rw [goes_is, if_neg h0, if_neg h1]
  by_cases h : p.head? = some 47
  · rw [if_pos h, if_pos h, loop_root H _ _ h]
  · rw [if_neg h, if_neg h]
def Bnd (go : Int → List UInt8 → Nat → Int × Int × Nat) : Prop := ∀ a t r, 0 ≤ a → a ≤ 1024 → (0 ≤ (go a t r).1 ∧ (go a t r).1 ≤ 1024) ∧ (go a t r).2.2 ≤ r
theorem step_bnd {s : NS} {n : Nat} (K : NOk s n) {go : Int → List UInt8 → Nat → Int × Int × Nat} (hg : Bnd go) {a : Int} (p : List UInt8) (f : Bool) (r : Nat) (h0 : 0 ≤ a) (h1 : a ≤ 1024) : (0 ≤ (stepN go s a p f r).1 ∧ (stepN go s a p f r).1 ≤ 1024) ∧ (stepN go s a p f r).2.2 ≤ r := by
  unfold stepN
  have hf := K.find a p
  have hp := K.par a
  split
  · exact ⟨by simp, Nat.le_refl _⟩
  · split
    · exact ⟨⟨h0, h1⟩, Nat.le_refl _⟩
    · split
      · split
        · exact ⟨by simp, Nat.le_refl _⟩
        · exact ⟨hp, Nat.le_refl _⟩
      · split
        · exact ⟨by simp, Nat.le_refl _⟩
        · split
          · exact ⟨by simp, Nat.le_refl _⟩
          · split
            · exact ⟨hf, Nat.le_refl _⟩
            · split
              · exact ⟨by simp, Nat.le_refl _⟩
              · have := hg a (datO (ndAt s.T (findN s a p))) (r - 1) h0 h1
                exact ⟨this.1, by omega⟩
theorem loop_bnd {s : NS} {n : Nat} (K : NOk s n) {go : Int → List UInt8 → Nat → Int × Int × Nat} (hg : Bnd go) (f : Bool) : ∀ (ps : List (List UInt8)) (a : Int) (r : Nat), 0 ≤ a → a ≤ 1024 → (0 ≤ (loopN go s f ps a r).1 ∧ (loopN go s f ps a r).1 ≤ 1024) ∧ (loopN go s f ps a r).2.2 ≤ r
  | [], a, r, h0, h1 => ⟨⟨h0, h1⟩, Nat.le_refl _⟩
  | [p], a, r, h0, h1 => step_bnd K hg p f r h0 h1
  | p :: q :: ps, a, r, h0, h1 => by
    have hs := step_bnd K hg p true r h0 h1
    unfold loopN
    split
    · exact hs
    · have := loop_bnd K hg f (q :: ps) (stepN go s a p true r).1 (stepN go s a p true r).2.2 hs.1.1 hs.1.2
      exact ⟨this.1, Nat.le_trans this.2 hs.2⟩
theorem goF_bnd {s : NS} {k : Nat} (K : NOk s k) : ∀ n, Bnd (goF s n)
  | 0 => fun a t r _ _ => ⟨by simp [goF], Nat.le_refl _⟩
  | n + 1 => fun a t r h0 h1 => by
    show (0 ≤ (goesN s n a t true r).1 ∧ (goesN s n a t true r).1 ≤ 1024) ∧ (goesN s n a t true r).2.2 ≤ r
    rw [goes_is]
    split
    · exact ⟨by simp, Nat.le_refl _⟩
    · split
      · exact ⟨by simp, Nat.le_refl _⟩
      · split
        · exact loop_bnd K (goF_bnd K n) true _ _ _ (by decide) (by decide)
        · exact loop_bnd K (goF_bnd K n) true _ _ _ h0 h1
theorem goes_bnd {s : NS} {k : Nat} (K : NOk s k) (n : Nat) {a : Int} (p : List UInt8) (f : Bool) (r : Nat) (h0 : 0 ≤ a) (h1 : a ≤ 1024) : (0 ≤ (goesN s n a p f r).1 ∧ (goesN s n a p f r).1 ≤ 1024) ∧ (goesN s n a p f r).2.2 ≤ r := by
  rw [goes_is]
  split
  · exact ⟨by simp, Nat.le_refl _⟩
  · split
    · exact ⟨by simp, Nat.le_refl _⟩
    · split
      · exact loop_bnd K (goF_bnd K n) f _ _ _ (by decide) (by decide)
      · exact loop_bnd K (goF_bnd K n) f _ _ _ h0 h1
/-- On an error nothing is come to. -/
def Zer (go : Int → List UInt8 → Nat → Int × Int × Nat) : Prop := ∀ a t r, (go a t r).2.1 ≠ 0 → (go a t r).1 = 0
theorem step_zer {s : NS} {go : Int → List UInt8 → Nat → Int × Int × Nat} (hg : Zer go) (a : Int) (p : List UInt8) (f : Bool) (r : Nat) (h : (stepN go s a p f r).2.1 ≠ 0) : (stepN go s a p f r).1 = 0 := by
  unfold stepN at h ⊢
  split at h
  · rename_i h1; rw [if_pos h1]
  · rename_i h1
    rw [if_neg h1]
    split at h
    · exact absurd rfl h
    · rename_i h2
      rw [if_neg h2]
      split at h
      · rename_i h3
        rw [if_pos h3]
        split at h
        · rename_i h8; rw [if_pos h8]
        · exact absurd rfl h
      · rename_i h3
        rw [if_neg h3]
        split at h
        · rename_i h4; rw [if_pos h4]
        · rename_i h4
          rw [if_neg h4]
          split at h
          · rename_i h5; rw [if_pos h5]
          · rename_i h5
            rw [if_neg h5]
            split at h
            · exact absurd rfl h
            · rename_i h6
              rw [if_neg h6]
              split at h
              · rename_i h7; rw [if_pos h7]
              · rename_i h7
                rw [if_neg h7]
                exact hg _ _ _ h
theorem loop_zer {s : NS} {go : Int → List UInt8 → Nat → Int × Int × Nat} (hg : Zer go) (f : Bool) : ∀ (ps : List (List UInt8)) (a : Int) (r : Nat), (loopN go s f ps a r).2.1 ≠ 0 → (loopN go s f ps a r).1 = 0
  | [], a, r, h => absurd rfl h
  | [p], a, r, h => step_zer hg a p f r h
  | p :: q :: ps, a, r, h => by
    unfold loopN at h ⊢
    split at h
    · rename_i h1
      rw [if_pos h1]
      exact step_zer hg a p true r h1
    · rename_i h1
      rw [if_neg h1]
      exact loop_zer hg f (q :: ps) _ _ h
theorem goF_zer (s : NS) : ∀ n, Zer (goF s n)
  | 0 => fun a t r _ => rfl
  | n + 1 => fun a t r h => by
    have h : (goesN s n a t true r).2.1 ≠ 0 := h
    show (goesN s n a t true r).1 = 0
    rw [goes_is] at h ⊢
    split at h
    · rename_i h1; rw [if_pos h1]
    · rename_i h1
      rw [if_neg h1]
      split at h
      · rename_i h2; rw [if_pos h2]
      · rename_i h2
        rw [if_neg h2]
        split at h
        · rename_i h3; rw [if_pos h3]; exact loop_zer (goF_zer s n) true _ _ _ h
        · rename_i h3; rw [if_neg h3]; exact loop_zer (goF_zer s n) true _ _ _ h

end Go.Proofs.YtemologkibcdoaaGreatDoor

/- Directories (stage 13): through, step. -/
namespace Go.Proofs.YtemologkibcdoaaGreatDoor
open Go.RowKit Go.Maps

/-- A walk at b, which may yet follow r links. -/
structure Wk (w : World) (b q : Nat) (Y : Nat → Prop) (s : NS) (nb n : Nat) (B : Bas) (r : Nat) : Prop where
  nd : NdX w q Y s nb n B
  blk : Blk w b 147 #[.pointer (some ⟨q, 0, none⟩), .int .i64 (8 - (r : Int))]
  no : ¬ Y b
  new : B.tn b
  le : r ≤ 8
theorem Wk.below {w w' : World} {b q nb n : Nat} {B : Bas} {r : Nat} {Y : Nat → Prop} {s : NS} (H : Wk w b q Y s nb n B r) (hb : Below w.heap.size w w') : Wk w' b q Y s nb n B r := ⟨H.nd.below hb, H.blk.below hb H.blk.lt, H.no, H.new, H.le⟩
/-- What along answers of what links say, at a level. -/
def AlgAt (b q : Nat) (Y : Nat → Prop) (s : NS) (nb n : Nat) (B : Bas) (m : Nat) : Prop := ∀ (W : World) (a : Int) (t : List UInt8) (f : Bool) (r : Nat), Wk W b q Y s nb n B r → r ≤ m → 0 ≤ a → a ≤ 1024 → t.length ≤ 100000 → Calls Tryz.prog 66 #[.pointer (some ⟨b, 0, none⟩), .int .i64 a, .string (BA t), .bool f] W fun e w' => e = .returned (.tuple #[.int .i64 (goesN s m a t f r).1, .int .i64 (goesN s m a t f r).2.1]) ∧ Hid (Wk w' b q Y s nb n B (goesN s m a t f r).2.2 ∧ GrownS W w' (fun k => k = b))
theorem dat_max {s : NS} {n : Nat} (K : NOk s n) (i : Int) : (datO (ndAt s.T i)).length ≤ 4096 := by
  cases hx : ndAt s.T i with
  | none => exact Nat.zero_le _
  | some x =>
    obtain ⟨k, _, hk, _⟩ := ndAt_some hx
    show (datOf x).length ≤ 4096
    rw [datOf_len]
    exact (K.gd k x hk).1.size
set_option maxRecDepth 20000 in
set_option maxHeartbeats 1000000 in
theorem through_any {m : Nat} {w : World} {b q nb n : Nat} {B : Bas} {r : Nat} {Y : Nat → Prop} {s : NS} (H : Wk w b q Y s nb n B r) (AG : ∀ k, m = k + 1 → AlgAt b q Y s nb n B k) (hr : r ≤ m) (a i : Int) (h0 : 0 ≤ a) (h1 : a ≤ 1024) (i0 : 0 ≤ i) (i1 : i ≤ 1024) : Calls Tryz.prog 117 #[.pointer (some ⟨b, 0, none⟩), .int .i64 a, .int .i64 i] w fun e w' => ∃ (N E : Int) (r' : Nat), (N, E, r') = (if r = 0 then (0, 27, r) else goF s m a (datO (ndAt s.T i)) (r - 1)) ∧ e = .returned (.tuple #[.int .i64 N, .int .i64 E]) ∧ Hid (Wk w' b q Y s nb n B r' ∧ GrownS w w' (fun k => k = b)) := by
  have c0 : w.cell? ⟨b, 0, none⟩ = some (.pointer (some ⟨q, 0, none⟩)) := H.blk.cell 0 rfl
  have c1 : w.cell? ⟨b, 1, none⟩ = some (.int .i64 (8 - (r : Int))) := H.blk.cell 1 rfl
  have f1 : w.frozen? ⟨b, 1, none⟩ = false := H.blk.frozen 1
  generalize hRR : (if r = 0 then (0, 27, r) else goF s m a (datO (ndAt s.T i)) (r - 1)) = RR
  have HRR := hide hRR
  clear hRR
  by_cases hz : r = 0
  · have hc : (8 - (r : Int) == 8) = true := by subst hz; rfl
    have HE : Hid (Wk w b q Y s nb n B r ∧ GrownS w w (fun k => k = b)) := hide ⟨H, grownS_of_below (Below.refl _ _)⟩
    have HZ := hide hz
    obtain ⟨z, hzz⟩ : ∃ z : Int, z = 8 - (r : Int) := ⟨_, rfl⟩
    rw [← hzz] at c1 hc
    clear hzz hz H AG
    go_enter Tryz.func117, Tryz.ntmps117
    go_wp2_with fail
    go_ret2
    exact ⟨0, 27, r, by rw [← unhide HRR, if_pos (unhide HZ)], rfl, HE⟩
  · have hle := H.le
    have hc : (8 - (r : Int) == 8) = false := by rw [beq_eq_false_iff_ne]; omega
    have hlt : 8 - (r : Int) ≤ 8 ∧ 0 ≤ 8 - (r : Int) := by omega
    have hg1 : GrownS w (w.setCell ⟨b, 1, none⟩ (.int .i64 (8 - (r : Int) + 1))) (fun k => k = b) := GrownS.of (grown_setCell w _ _) (fun k e => by simpa using e)
    have HW : Hid (Wk (w.setCell ⟨b, 1, none⟩ (.int .i64 (8 - (r : Int) + 1))) b q Y s nb n B (r - 1)) := hide ⟨H.nd.grownS hg1 (fun k _ hy e => H.no (by rw [← e]; exact hy)) (fun k e => by rw [e]; exact H.new), by
      have := H.blk.set 1 (.int .i64 (8 - (r : Int) + 1))
      rw [show (8 - ((r - 1 : Nat) : Int)) = 8 - (r : Int) + 1 by omega]
      exact this, H.no, H.new, by omega⟩
    obtain ⟨k, hk⟩ : ∃ k, m = k + 1 := ⟨m - 1, by omega⟩
    have HA := hide (AG k hk)
    have HK := hide hk
    have HL : Hid ((datO (ndAt s.T i)).length ≤ 4096) := hide (dat_max H.nd.ok i)
    have HR : Hid (r - 1 ≤ k) := hide (by omega)
    have HZ := hide hz
    have HG := hide hg1
    obtain ⟨z, hzz⟩ : ∃ z : Int, z = 8 - (r : Int) := ⟨_, rfl⟩
    rw [← hzz] at c1 hc HW HG hlt
    obtain ⟨d, hd⟩ : ∃ d, d = datO (ndAt s.T i) := ⟨_, rfl⟩
    have HD := hide hd
    rw [← hd] at HL
    clear hzz hz H AG hk hg1 hle hd
    go_enter Tryz.func117, Tryz.ntmps117
    go_wp2_with fail
    obtain ⟨W, hW⟩ : ∃ W, W = w.setCell ⟨b, 1, none⟩ (.int .i64 (z + 1)) := ⟨_, rfl⟩
    rw [← hW] at HW HG ⊢
    have c0' : W.cell? ⟨b, 0, none⟩ = some (.pointer (some ⟨q, 0, none⟩)) := (unhide HW).blk.cell 0 rfl
    have HB := hide (nbytes_any (unhide HW).nd i (by omega))
    rw [← unhide HD] at HB
    clear hW c0 c1
    go_wp2_with fail
    refine (unhide HB).mono ?_
    rintro e w1 ⟨rfl, b1⟩
    have HW1 := hide ((unhide HW).below b1)
    have HC := hide (unhide HA w1 a d true (r - 1) (unhide HW1) (unhide HR) h0 h1 (Nat.le_trans (unhide HL) (by decide)))
    have HG1 : Hid (GrownS w w1 (fun k => k = b)) := hide ((unhide HG).trans (grownS_of_below b1))
    clear HB HW HW1 HG b1 c0'
    go_wp2_with fail
    refine (unhide HC).mono ?_
    rintro e w2 ⟨rfl, HX⟩
    go_wp2_with fail
    go_ret2
    refine ⟨_, _, (goesN s k a d true (r - 1)).2.2, ?_, rfl, hide ⟨(unhide HX).1, (unhide HG1).trans (unhide HX).2⟩⟩
    rw [← unhide HRR, if_neg (unhide HZ), unhide HK, ← unhide HD]
    rfl

end Go.Proofs.YtemologkibcdoaaGreatDoor

/-
  Directories (stage 13): Stat, refuseBytes, Write.
  Directories (stage 13): New.
-/
import Derived.Test.YtemologkibcdoaaM26

/- Directories (stage 13): Stat, refuseBytes, Write. -/
namespace Go.Proofs.Ytemologkibcdoaa
open Go.RowKit Go.Maps

theorem below_set3 {w W : World} {pb : Nat} (hb : Below w.heap.size w W) (hp : w.heap.size ≤ pb) (u v x : Value) : Below w.heap.size w (((W.setCell ⟨pb, 0, none⟩ u).setCell ⟨pb, 1, none⟩ v).setCell ⟨pb, 2, none⟩ x) := by
  have g : GrownS ((W.setCell ⟨pb, 0, none⟩ u).setCell ⟨pb, 1, none⟩ v) (((W.setCell ⟨pb, 0, none⟩ u).setCell ⟨pb, 1, none⟩ v).setCell ⟨pb, 2, none⟩ x) (fun k => k = pb) := GrownS.of (grown_setCell _ _ _) (fun k e => by simpa using e)
  have h2 := below_set2 hb hp u v
  exact h2.trans (g.below h2.size (fun k e => by rw [e]; exact hp))
def statK (s : NS) (d : Int) : Nat := kdI s.T d
def statZ (s : NS) (d : Int) : Nat := if kdI s.T d = 2 then (inL s.L d).length else sizeOfN (ndAt s.T d)
def statE (s : NS) (d : Int) : Int := if kdI s.T d = 0 then 23 else 0
def filE (s : NS) (d : Int) : Int := if kdI s.T d = 0 then 23 else if kdI s.T d = 2 then 24 else if kdI s.T d = 3 then 1 else 0
/-- What Write leaves. -/
def WrtSp (s : NS) (nb : Nat) (d a : Int) (x : List UInt8) (N E : Int) (s' : NS) : Prop := (filE s d ≠ 0 ∧ N = 0 ∧ E = filE s d ∧ s' = s) ∨ (filE s d = 0 ∧ ∃ T', WrSp s.T (nb - usedT s.T) d a x N E T' ∧ s' = { s with T := T' })
end Go.Proofs.Ytemologkibcdoaa

/- Directories (stage 13): New. -/
namespace Go.Proofs.Ytemologkibcdoaa
open Go.RowKit Go.Maps

theorem root_all {n : Nat} (h : 1 ≤ n) : makeE (List.replicate n (none : Option Nd)) 2 = 0 ∧ makeN (List.replicate n (none : Option Nd)) 2 = 1 ∧ ∀ k, kdI (rootS n).T k = if k = 1 then 2 else 0 := by
  obtain ⟨m, rfl⟩ : ∃ m, n = m + 1 := ⟨n - 1, by omega⟩
  have hf : frAt (List.replicate (m + 1) (none : Option Nd)) = 0 := by unfold frAt; simp [List.replicate_succ, List.findIdx_cons]
  have hE : makeE (List.replicate (m + 1) none) 2 = 0 := by unfold makeE; rw [hf]; simp [kindOk]
  have hN : makeN (List.replicate (m + 1) none) 2 = 1 := by unfold makeN; rw [hf]; simp [kindOk]
  refine ⟨hE, hN, fun k => ?_⟩
  obtain ⟨a1, a2, a3⟩ := make_all hE
  rw [hN] at a3
  have a4 := a3 1
  rw [if_pos rfl] at a4
  show kdI (tieT (makeT (List.replicate (m + 1) none) 2) 1) k = _
  rw [(tie_all a4 k).2]
  unfold kdI
  rw [a3]
  split
  · rfl
  · have : ndAt (List.replicate (m + 1) (none : Option Nd)) k = none := by
      cases hx : ndAt (List.replicate (m + 1) (none : Option Nd)) k with
      | none => rfl
      | some x =>
        obtain ⟨j, _, hj, _⟩ := ndAt_some hx
        exact absurd hj (by rw [List.getElem?_replicate]; split <;> simp)
    rw [this]
    rfl
theorem ok_root {n : Nat} (h : 1 ≤ n) (h2 : n ≤ 1024) : NOk (rootS n) 1 := by
  refine ⟨keep_root h, good_tie (good_make (good_new n 0) 2) 1, ?_, fun x hx => ?_, Nat.zero_le _, fun k => ?_, fun d hd => ?_⟩
  · show (tieT (makeT (List.replicate n none) 2) 1).length ≤ 1024
    rw [tie_len, make_len, List.length_replicate]
    exact h2
  · have : x ∈ ([] : List Nm) := hx
    cases this
  · show 0 ≤ (if k = 1 then (1 : Int) else 0) ∧ (if k = 1 then (1 : Int) else 0) ≤ 1024
    split <;> decide
  · have hk := (root_all h).2.2
    rw [hk] at hd
    have e : d = 1 := by
      by_cases e : d = 1
      · exact e
      · rw [if_neg e] at hd; cases hd
    subst e
    refine .inr ?_
    show kdI (rootS n).T 1 = 2
    rw [hk, if_pos rfl]
theorem mk_dirs (W : World) : (Instr.makeMap 99 none).run Try.prog W = .ok (.map (some W.heap.size)) (W.alloc (.map #[] 0)) := by kernel_rfl
set_option maxRecDepth 20000 in
set_option maxHeartbeats 4000000 in
theorem rootAlone_any {w : World} {t nb m : Nat} {X : Nat → Prop} (h1 : 1 ≤ m) (htab : TAt w t X (List.replicate m none) nb) (hX : ∀ k, X k → k < w.heap.size) : Calls Try.prog 28 #[.pointer (some ⟨t, 0, none⟩)] w fun e w' => ∃ q, e = .returned (.pointer (some ⟨q, 0, none⟩)) ∧ Hid (w.heap.size ≤ q ∧ NdAt w' q (Fresh w X) (rootS m) nb ∧ GrownS w w' (Fresh w X)) := by
  have hmk := mk_dirs
  obtain ⟨W1, hW1⟩ : ∃ W1, W1 = w.alloc (.map #[] 0) := ⟨_, rfl⟩
  obtain ⟨W2, hW2⟩ : ∃ W2, W2 = W1.alloc (.cells #[.pointer (some ⟨t, 0, none⟩), .map (some w.heap.size)] 101) := ⟨_, rfl⟩
  have hb1 : Below w.heap.size w W1 := by rw [hW1]; exact (Below.refl _ w).alloc (Nat.le_refl _) _
  have hb2 : Below W1.heap.size W1 W2 := by rw [hW2]; exact (Below.refl _ W1).alloc (Nat.le_refl _) _
  have hs1 : W1.heap.size = w.heap.size + 1 := by rw [hW1]; simp
  have hs2 : W2.heap.size = w.heap.size + 2 := by rw [hW2]; simp [hs1]
  have hb12 : Below w.heap.size w W2 := hb1.trans (hb2.mono hb1.size)
  have hmap : MapV W2 3 w.heap.size (.map []) := mapV_grownS (S := fun _ => False) (by rw [hW1]; exact World.ownsMap_made (H := Value) w Try.prog 3 itself) (grownS_of_below hb2) (fun e => e)
  have hblk : Blk W2 W1.heap.size 101 #[.pointer (some ⟨t, 0, none⟩), .map (some w.heap.size)] := by rw [hW2]; exact Blk.new _ _ _
  have HG : Hid (GAt W2 W1.heap.size (Fresh w X) (List.replicate m none) [] (fun _ => 0) (fun _ => False) nb) := hide ⟨t, w.heap.size, fun _ => 0, X, ⟨hblk, htab.below hb12, fun k hk => by have := hX k hk; omega, fun h => by have := hX _ h; omega, fun h => by have := hX _ h; omega, ⟨.map [], hmap, fun d hd => hd.elim, fun d _ => rfl⟩, fun d hd => hd.elim, fun d e hd => hd.elim, fun d hd => hd.elim⟩, ⟨.inr hb1.size, .inr (Nat.le_refl _), fun d hd => hd.elim, fun k hk => .inl hk⟩⟩
  have HN2 : Hid (∀ k, W2.heap.size ≤ k → Fresh w X k) := hide (fun k hk => .inr (by omega))
  have HGR : Hid (GrownS w W2 (Fresh w X)) := hide (grownS_of_below hb12)
  obtain ⟨q, hq⟩ : ∃ q, q = W1.heap.size := ⟨_, rfl⟩
  have HQ : Hid (w.heap.size ≤ q) := hide (by rw [hq]; exact hb1.size)
  rw [← hq] at HG
  have HQ1 : Hid (w.heap.size + 1 = q) := hide (by rw [hq, hs1])
  obtain ⟨t1, X1, c0, htab1, hX1, hturn⟩ := (unhide HG).tbl (unhide HN2)
  have HMK := hide (tmake_any htab1 2 hX1)
  have HTU := hide hturn
  obtain ⟨r1, r2, r3⟩ := root_all h1
  have HR3 := hide r3
  rw [r1, r2] at HMK
  have HW2 : Hid (W2 = (w.alloc (.map #[] 0)).alloc (.cells #[.pointer (some ⟨t, 0, none⟩), .map (some w.heap.size)] 101)) := hide (by rw [hW2, hW1])
  clear hW1 hW2 hb1 hb2 hs1 hs2 hb12 hmap hblk htab hX htab1 hX1 hturn r1 r2 r3 hq
  go_enter Try.func28, Try.ntmps28
  go_upto_region 2 with fail
  rw [← unhide HW2]
  first | rw [unhide HQ1] | skip
  go_wp2_with fail
  refine (unhide HMK).mono ?_
  rintro e w3 ⟨rfl, k1, k2⟩
  have HG3 := hide (unhide HTU w3 _ k1 k2)
  have HN3 : Hid (∀ k, w3.heap.size ≤ k → Fresh w X k) := hide (fun k hk => unhide HN2 k (Nat.le_trans (unhide HG3).2.size hk))
  clear k1 k2 HMK HTU c0
  obtain ⟨t2, X2, c0, htab2, hX2, hturn2⟩ := (unhide HG3).1.tbl (unhide HN3)
  have HTI := hide (ttie_any htab2 1 (by decide) (fun k x hx => Nat.le_trans ((good_make (good_new m 0) 2) k x hx).2.1 (by decide)))
  have HTU2 := hide hturn2
  clear htab2 hX2 hturn2
  go_wp2_with fail
  refine (unhide HTI).mono ?_
  rintro e w4 ⟨rfl, k1, k2⟩
  have HG4 := hide (unhide HTU2 w4 _ k1 k2)
  have HN4 : Hid (∀ k, w4.heap.size ≤ k → Fresh w X k) := hide (fun k hk => unhide HN3 k (Nat.le_trans (unhide HG4).2.size hk))
  clear k1 k2 HTI HTU2 c0
  have HOP := hide (open_any (unhide HG4).1 (unhide HN4) 1 1 (by decide) (fun y hy => by cases hy))
  go_wp2_with fail
  refine (unhide HOP).mono ?_
  rintro e w5 ⟨rfl, HX⟩
  have HND : Hid (NdAt w5 q (Fresh w X) (rootS m) nb) := hide (GAt.toN (L := []) (par := parU (fun _ => 0) 1 1) (unhide HX).1 (fun d => by
    have := unhide HR3 d
    constructor
    · rintro (h | h)
      · subst h
        exact this
      · exact h.elim
    · intro h
      by_cases e : d = 1
      · exact .inl e
      · have h2 : kdI (rootS m).T d = 2 := h
        rw [this, if_neg e] at h2
        cases h2))
  go_wp2_with fail
  go_ret
  exact ⟨q, rfl, hide ⟨unhide HQ, unhide HND, (((unhide HGR).trans (unhide HG3).2).trans (unhide HG4).2).trans (unhide HX).2⟩⟩
/-- What New leaves. -/
def Newed (w w' : World) (f q : Nat) (m nb : Nat) (B : Bas) : Prop := ∃ Y, FX w' f q Y (rootS m) nb 1 B ∧ (∀ k, Y k → w.heap.size ≤ k) ∧ w.heap.size ≤ f ∧ Below w.heap.size w w'
set_option maxRecDepth 20000 in
set_option maxHeartbeats 1000000 in
theorem nnew_any (m b : Nat) (w : World) {B : Bas} (E : EnvB w B) (h1 : 1 ≤ m) (h2 : m ≤ 1024) (h3 : 1 ≤ b) (h4 : b ≤ 4096) : Calls Try.prog 13 #[.int .i64 (m : Int), .int .i64 (b : Int)] w fun e w' => ∃ f q, e = .returned (.tuple #[.pointer (some ⟨f, 0, none⟩), .int .i64 0]) ∧ Hid (Newed w w' f q m b B) := by
  have HT := hide (tnew_any m b w h1 h2 h3 h4)
  have HE := hide E
  have HOK := hide (ok_root h1 h2)
  go_enter Try.func13, Try.ntmps13
  go_wp2_with fail
  refine (unhide HT).mono ?_
  rintro e w1 ⟨t, rfl, HX⟩
  have HRA := hide (rootAlone_any (X := fun k => w.heap.size ≤ k ∧ k < w1.heap.size) h1 ((unhide HX).1.mono (fun k hk hx => ⟨hx, hk⟩)) (fun k hk => hk.2))
  go_wp2_with fail
  refine (unhide HRA).mono ?_
  rintro e w2 ⟨q, rfl, HY⟩
  have hgr := (unhide HY).2.2
  have hnd := (unhide HY).2.1
  have hb2 : Below w2.heap.size w2 (w2.alloc (.cells #[.pointer (some ⟨q, 0, none⟩)] 83)) := (Below.refl _ w2).alloc (Nat.le_refl _) _
  have hz : ∀ k, Fresh w1 (fun k => w.heap.size ≤ k ∧ k < w1.heap.size) k → w.heap.size ≤ k := fun k hk => hk.elim (fun h => h.1) (fun h => Nat.le_trans (unhide HX).2.size h)
  have hbel : Below w.heap.size w w2 := (unhide HX).2.trans (hgr.below (unhide HX).2.size hz)
  have hblk := Blk.new w2 83 #[.pointer (some ⟨q, 0, none⟩)]
  have hs : (w2.alloc (.cells #[.pointer (some ⟨q, 0, none⟩)] 83)).heap.size = w2.heap.size + 1 := by simp
  have hnd2 : NdAt w2 q (fun k => w.heap.size ≤ k ∧ k ≠ w2.heap.size) (rootS m) b := hnd.mono (fun k hk hy => ⟨hz k hy, by omega⟩)
  have HN : Hid (Newed w (w2.alloc (.cells #[.pointer (some ⟨q, 0, none⟩)] 83)) w2.heap.size q m b B) := hide ⟨fun k => w.heap.size ≤ k ∧ k ≠ w2.heap.size, ⟨⟨hnd2.below hb2, unhide HOK, ((unhide HE).below hbel).below hb2, fun k hk => (unhide HE).le k hk.1⟩, hblk, fun h => h.2 rfl, fun k hk => ⟨by have := hbel.size; omega, by omega⟩⟩, fun k hk => hk.1, hbel.size, hbel.trans (hb2.mono hbel.size)⟩
  clear hnd2
  clear hgr hnd hb2 hz hbel hblk hs
  go_wp2_with fail
  go_ret2
  exact ⟨_, q, rfl, HN⟩

end Go.Proofs.Ytemologkibcdoaa

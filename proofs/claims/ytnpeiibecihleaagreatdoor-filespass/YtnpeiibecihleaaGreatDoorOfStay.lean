/-
  FilesStays: a file that is open is there, though its name is gone, till it is closed.
-/
import Derived.Test.YtnpeiibecihleaaGreatDoorM23
import Derived.Test.YtnpeiibecihleaaGreatDoorM22
namespace Go.Proofs.YtnpeiibecihleaaGreatDoor
open Go.RowKit Go.Maps

def ndU : Nd := { ndA 1 with names := 0 }
def stS : NS := unlinkS (oneS [none] LA parA (ndA 1)) 1 [97]
theorem st_unl : unlinkE (oneS [none] LA parA (ndA 1)) 1 [97] = 0 := by kernel_rfl
theorem st_unlS : stS = oneS [none] [] stS.par ndU := by rfl
def gnT : TB := [some nR, none, none]
theorem st_loo {par : Int → Int} {y : Nd} (h1 : y.names = 0) (h2 : y.users = 1) : (looS (oneS [none] [] par y) 2).T = gnT := by
  show looT (oneS [none] [] par y).T 2 = gnT
  unfold looT
  rw [one_nd]
  dsimp only
  rw [h2, if_neg (by decide)]
  have : leftN (looN y) = none := by
    unfold leftN looN
    rw [if_pos ⟨h1, by show y.users - 1 = 0; rw [h2]⟩]
  rw [this]
  rfl
theorem st_free1 : freeT gnT = 2 ∧ usedT gnT = 0 := ⟨by kernel_rfl, by kernel_rfl⟩
theorem st_free0 : freeT (rootS 3).T = 2 ∧ usedT (rootS 3).T = 0 := ⟨by kernel_rfl, by kernel_rfl⟩
theorem badF11 : badF 11 = false := by kernel_rfl
theorem hasF11 : hasF 11 8 = true ∧ hasF 11 18 = false ∧ hasF 11 2 = true := ⟨by kernel_rfl, by kernel_rfl, by kernel_rfl⟩
theorem st_read {par : Int → Int} {y : Nd} {d : List UInt8} (hk : y.kind = 1) (h : datOf y = d) (hd : d.length ≤ 1000) : nrdE (oneS [none] [] par y) 2 0 2000 = 0 ∧ nrdT (oneS [none] [] par y) 2 0 2000 = d := by
  obtain ⟨o1, o2⟩ := one_read (R := [none]) (L := []) (par := par) hk (a := 0) (m := 2000)
  refine ⟨o1, o2.trans ?_⟩
  rw [if_neg (by decide), h]
  exact List.take_of_length_le (by show d.length ≤ 2000; omega)
theorem xrd_closed {s : NS} {x : Fl} (h : x.cl = true) (m : Int) : xrdE s x m = 28 ∧ xrdT s x m = [] := by
  have hr : refuF x 1 = 28 := by unfold refuF; rw [h]; rfl
  unfold xrdE xrdT
  rw [hr]
  exact ⟨if_pos (by decide), if_pos (.inl (by decide))⟩
set_option maxRecDepth 20000 in
set_option maxHeartbeats 4000000 in
theorem filesstays_walk (p : List UInt8) (w : World) (E : EnvB w (Bas.of w)) : Calls Tryz.prog 5 #[.string (BA p)] w fun e w' => e = .returned (.bool true) ∧ Below w.heap.size w w' := by
  have HA : Hid (∀ W, EnvB W (Bas.of w) → Calls Tryz.prog 10 #[] W fun e w' => e = .returned (.bool true) ∧ Below w.heap.size w w') := hide (fun W hW => (awake14_any W hW.self).mono (fun e w' h => ⟨h.1, hW.bel.trans (h.2.mono hW.bel.size)⟩))
  have HNW := hide (nnew_any 3 64 w E (by decide) (by decide) (by decide) (by decide))
  have HE := hide E
  obtain ⟨A, hA⟩ : ∃ A, A = BA p := ⟨_, rfl⟩
  obtain ⟨la, hla⟩ : ∃ la, la = p.length := ⟨_, rfl⟩
  have hAs : A.size = la := by rw [hA, hla]; rfl
  have HAB := hide hA
  have HLA := hide hla
  rw [← hA]
  clear E hA hla
  by_cases hbig : (1000 : Int) < (la : Int)
  · have HAW := hide (unhide HA w (unhide HE))
    clear HNW HA
    go_enter Tryz.func5, Tryz.ntmps5
    go_wp2_with fail
    refine (unhide HAW).mono ?_
    rintro e w2 ⟨rfl, hw⟩
    have HB := hide hw
    clear hw
    go_wp2_with fail
    go_ret
    exact ⟨rfl, unhide HB⟩
  · have HPL : Hid (p.length ≤ 1000) := hide (by have := unhide HLA; omega)
    go_enter Tryz.func5, Tryz.ntmps5
    go_wp2_with fail
    refine (unhide HNW).mono ?_
    rintro e w1 ⟨f, q, rfl, HW⟩
    obtain ⟨Y, hfx, _, _, _⟩ := unhide HW
    have HFR : Hid (Calls Tryz.prog 16 #[.pointer (some ⟨f, 0, none⟩)] w1 fun e w' => e = .returned (.tuple #[.int .i64 2, .int .i64 64]) ∧ w' = w1) := hide (by
      have h := ffree_any hfx
      rw [st_free0.1, st_free0.2] at h
      exact h)
    have HO1 := hide (open_first hfx first3 (by decide) 11 badF11 hasF11.1 hasF11.2.1)
    clear hfx HW HNW
    go_wp2_with fail
    refine (unhide HFR).mono ?_
    rintro e w2 ⟨rfl, hw2⟩
    subst hw2
    clear HFR
    go_wp2_with fail
    refine (unhide HO1).mono ?_
    rintro e w2 ⟨b, rfl, HX⟩
    obtain ⟨Y1, hg1⟩ := unhide HX
    have HUN : Hid (Calls Tryz.prog 23 #[.pointer (some ⟨f, 0, none⟩), .int .i64 1, .string (BA [97])] w2 fun e w' => e = .returned (.int .i64 0) ∧ Hid (GX w' f q Y1 (oneS [none] [] stS.par ndU) 64 5 (Bas.of w) [(b, ⟨false, 2, 0, 11⟩)])) := hide ((unlink_any hg1.fx.rebased (by decide) 1 [97] (by decide) (by decide)).mono (fun e w' h => by
      obtain ⟨h1, h2⟩ := h
      rw [st_unl] at h1
      have h3 := hg1.tree (unhide h2)
      change GX w' f q Y1 stS 64 5 (Bas.of w) _ at h3
      rw [st_unlS] at h3
      exact ⟨h1, hide h3⟩))
    clear hg1 HX HO1
    go_wp2_with fail
    refine (unhide HUN).mono ?_
    rintro e w3 ⟨rfl, HG2⟩
    have HWR := hide (write_one rfl (unhide HG2) (j := 0) rfl rfl (by decide) rfl rfl hasF11.2.2 (.inr rfl) p (by have := unhide HPL; show 0 + p.length ≤ 4096; omega))
    rw [← unhide HAB, ← unhide HLA] at HWR
    clear HUN
    go_wp2_with fail
    refine (unhide HWR).mono ?_
    rintro e w4 ⟨rfl, HX⟩
    obtain ⟨y, y1, y2, y3, y4, hg3⟩ := unhide HX
    have HG3 := hide hg3
    have HND : Hid (Calls Tryz.prog 25 #[.pointer (some ⟨b, 0, none⟩)] w4 fun e w' => e = .returned (.int .i64 2) ∧ w' = w4) := hide (xnode_any (hg3.blk 0 b _ rfl))
    have HRD : Hid (Calls Tryz.prog 24 #[.pointer (some ⟨f, 0, none⟩), .int .i64 2, .int .i64 0, .int .i64 2000] w4 fun e w' => e = .returned (.tuple #[.string A, .int .i64 0]) ∧ Below w4.heap.size w4 w') := hide (by
      have h := fread_any hg3.fx 2 0 2000 (by decide) (by decide)
      obtain ⟨o1, o2⟩ := st_read (par := stS.par) y1 (y4.trans (show ([] : List UInt8) ++ p = p from rfl)) (unhide HPL)
      rw [o1, o2, ← unhide HAB] at h
      exact h)
    have HY2 := hide y2
    have HY3 := hide y3
    clear hg3 y1 y2 y3 y4 HX HWR HG2
    go_wp2_with fail
    refine (unhide HND).mono ?_
    rintro e w5 ⟨rfl, hw5⟩
    subst hw5
    clear HND
    go_wp2_with fail
    refine (unhide HRD).mono ?_
    rintro e w5 ⟨rfl, hw5⟩
    have HG4 := hide ((unhide HG3).below hw5)
    have HC1 := hide (xclose_any (unhide HG4) (j := 0) rfl (by decide))
    clear hw5 HRD HG3
    go_wp2_with fail
    refine (unhide HC1).mono ?_
    rintro e w6 ⟨rfl, HG5⟩
    have HC2 := hide (xclose_any (unhide HG5) (j := 0) rfl (by decide))
    clear HC1 HG4
    go_wp2_with fail
    refine (unhide HC2).mono ?_
    rintro e w7 ⟨rfl, HG6⟩
    have HFR2 : Hid (Calls Tryz.prog 16 #[.pointer (some ⟨f, 0, none⟩)] w7 fun e w' => e = .returned (.tuple #[.int .i64 2, .int .i64 64]) ∧ w' = w7) := hide (by
      have h := ffree_any (unhide HG6).fx
      have hT : (looS (oneS [none] [] stS.par y) 2).T = gnT := st_loo (unhide HY2) (unhide HY3)
      change Calls _ _ _ _ fun e w' => e = .returned (.tuple #[.int .i64 (freeT (looS (oneS [none] [] stS.par y) 2).T : Int), .int .i64 ((64 - usedT (looS (oneS [none] [] stS.par y) 2).T : Nat) : Int)]) ∧ _ at h
      rw [hT, st_free1.1, st_free1.2] at h
      exact h)
    have HR2 : Hid (Calls Tryz.prog 21 #[.pointer (some ⟨b, 0, none⟩), .int .i64 1] w7 fun e w' => e = .returned (.tuple #[.string (BA []), .int .i64 28]) ∧ EnvB w' (Bas.of w)) := hide ((xread_any (unhide HG6) (j := 0) rfl 1).mono (fun e w' h => by
      obtain ⟨h1, h2⟩ := h
      obtain ⟨o1, o2⟩ := xrd_closed (s := xclS (xclS (oneS [none] [] stS.par y) ⟨false, 2, ((ndU.size : Nat) : Int) + (la : Int), 11⟩) ⟨true, 2, ((ndU.size : Nat) : Int) + (la : Int), 11⟩) (x := ⟨true, 2, ((ndU.size : Nat) : Int) + (la : Int), 11⟩) rfl 1
      refine ⟨h1.trans ?_, (unhide h2).fx.nd.env⟩
      show Ending.returned (.tuple #[.string (BA (xrdT _ _ 1)), .int .i64 (xrdE _ _ 1)]) = _
      rw [show xrdT _ _ 1 = _ from o2, show xrdE _ _ 1 = _ from o1]))
    clear HC2 HG5
    go_wp2_with fail
    refine (unhide HFR2).mono ?_
    rintro e w8 ⟨rfl, hw8⟩
    subst hw8
    clear HFR2
    go_wp2_with fail
    refine (unhide HR2).mono ?_
    rintro e w9 ⟨rfl, hw9⟩
    have HAW := hide (unhide HA w9 hw9)
    clear hw9 HR2
    go_wp2_with fail
    refine (unhide HAW).mono ?_
    rintro e w10 ⟨rfl, hw⟩
    have HB := hide hw
    clear hw
    go_wp2_with fail
    go_ret
    exact ⟨rfl, unhide HB⟩

end Go.Proofs.YtnpeiibecihleaaGreatDoor

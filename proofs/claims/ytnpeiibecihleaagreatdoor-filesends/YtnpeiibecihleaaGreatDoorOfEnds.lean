/-
  FilesEnds: two files that are opened to Append put their bytes one behind the other.
-/
import Derived.Test.YtnpeiibecihleaaGreatDoorOfStay
namespace Go.Proofs.YtnpeiibecihleaaGreatDoor
open Go.RowKit Go.Maps

theorem BA_app14 (a b : List UInt8) : BA a ++ BA b = BA (a ++ b) := by
  apply ByteArray.ext
  simp [BA, ByteArray.data_append]
theorem badF14 : badF 14 = false := by kernel_rfl
theorem badF6 : badF 6 = false := by kernel_rfl
theorem hasF14 : hasF 14 8 = true ∧ hasF 14 18 = false ∧ hasF 14 2 = true ∧ hasF 14 4 = true := ⟨by kernel_rfl, by kernel_rfl, by kernel_rfl, by kernel_rfl⟩
theorem hasF6 : hasF 6 40 = false ∧ hasF 6 18 = false ∧ hasF 6 2 = true ∧ hasF 6 4 = true := ⟨by kernel_rfl, by kernel_rfl, by kernel_rfl, by kernel_rfl⟩
/-- Both files, and what is in their node. -/
def EndSt (w0 wr : World) (f q : Nat) (Y : Nat → Prop) (b c : Nat) (al : List UInt8) (n : Nat) : Prop := ∃ y ta tb, y.kind = 1 ∧ datOf y = al ∧ GX wr f q Y (oneS [none] LA parA y) 64 n (Bas.of w0) [(b, ⟨false, 2, ta, 14⟩), (c, ⟨false, 2, tb, 6⟩)]
theorem dat_siz14 {y : Nd} {al : List UInt8} (h : datOf y = al) : y.size = al.length := by rw [← h, datOf_len]
theorem EndSt.write1 {w0 wr : World} {f q : Nat} {Y : Nat → Prop} {b c n : Nat} {al : List UInt8} (H : EndSt w0 wr f q Y b c al n) (hn : n ≤ 9000) (d : List UInt8) (hd : al.length + d.length ≤ 4096) : Calls Tryz.prog 20 #[.pointer (some ⟨b, 0, none⟩), .string (BA d)] wr fun e w' => e = .returned (.tuple #[.int .i64 (d.length : Int), .int .i64 0]) ∧ Hid (EndSt w0 w' f q Y b c (al ++ d) (n + 1)) := by
  obtain ⟨y, ta, tb, h1, h2, h3⟩ := H
  refine (write_one rfl h3 (j := 0) rfl h1 hn rfl rfl hasF14.2.2.1 (.inl hasF14.2.2.2) d (by rw [dat_siz14 h2]; exact hd)).mono (fun e w' h => ?_)
  obtain ⟨e1, e2⟩ := h
  obtain ⟨z, z1, _, _, z4, z5⟩ := unhide e2
  exact ⟨e1, hide ⟨z, _, tb, z1, by rw [z4, h2], z5⟩⟩
theorem EndSt.write2 {w0 wr : World} {f q : Nat} {Y : Nat → Prop} {b c n : Nat} {al : List UInt8} (H : EndSt w0 wr f q Y b c al n) (hn : n ≤ 9000) (d : List UInt8) (hd : al.length + d.length ≤ 4096) : Calls Tryz.prog 20 #[.pointer (some ⟨c, 0, none⟩), .string (BA d)] wr fun e w' => e = .returned (.tuple #[.int .i64 (d.length : Int), .int .i64 0]) ∧ Hid (EndSt w0 w' f q Y b c (al ++ d) (n + 1)) := by
  obtain ⟨y, ta, tb, h1, h2, h3⟩ := H
  refine (write_one rfl h3 (j := 1) rfl h1 hn rfl rfl hasF6.2.2.1 (.inl hasF6.2.2.2) d (by rw [dat_siz14 h2]; exact hd)).mono (fun e w' h => ?_)
  obtain ⟨e1, e2⟩ := h
  obtain ⟨z, z1, _, _, z4, z5⟩ := unhide e2
  exact ⟨e1, hide ⟨z, ta, _, z1, by rw [z4, h2], z5⟩⟩
theorem EndSt.env {w0 wr : World} {f q : Nat} {Y : Nat → Prop} {b c n : Nat} {al : List UInt8} (H : EndSt w0 wr f q Y b c al n) : EnvB wr (Bas.of w0) := by
  obtain ⟨y, ta, tb, h1, h2, h3⟩ := H
  exact h3.fx.nd.env
theorem EndSt.node {w0 wr : World} {f q : Nat} {Y : Nat → Prop} {b c n : Nat} {al : List UInt8} (H : EndSt w0 wr f q Y b c al n) : Calls Tryz.prog 25 #[.pointer (some ⟨b, 0, none⟩)] wr fun e w' => e = .returned (.int .i64 2) ∧ w' = wr := by
  obtain ⟨y, ta, tb, h1, h2, h3⟩ := H
  exact xnode_any (h3.blk 0 b _ rfl)
theorem EndSt.read {w0 wr : World} {f q : Nat} {Y : Nat → Prop} {b c n : Nat} {al : List UInt8} (H : EndSt w0 wr f q Y b c al n) (hl : al.length ≤ 4096) : Calls Tryz.prog 24 #[.pointer (some ⟨f, 0, none⟩), .int .i64 2, .int .i64 0, .int .i64 4096] wr fun e w' => e = .returned (.tuple #[.string (BA al), .int .i64 0]) ∧ EnvB w' (Bas.of w0) := by
  obtain ⟨y, ta, tb, h1, h2, h3⟩ := H
  obtain ⟨o1, o2⟩ := one_read (R := [none]) (L := LA) (par := parA) h1 (a := 0) (m := 4096)
  refine (fread_any h3.fx 2 0 4096 (by decide) (by decide)).mono (fun e w' h => ?_)
  obtain ⟨e1, e2⟩ := h
  refine ⟨e1.trans ?_, h3.fx.nd.env.below e2⟩
  have o3 : nrdT (oneS [none] LA parA y) 2 0 4096 = al := o2.trans (by
    rw [if_neg (by decide), h2]
    exact List.take_of_length_le (by show al.length ≤ 4096; exact hl))
  have o4 : nrdE (oneS [none] LA parA y) 2 0 4096 = 0 := o1
  rw [o3, o4]
set_option maxRecDepth 20000 in
set_option maxHeartbeats 8000000 in
theorem filesends_walk (v u : Value) (L : List (List UInt8)) (Q : List Bool) (w : World) (E : EnvB w (Bas.of w)) (hl : SRow w v L) (hq : BRow w u Q) : Calls Tryz.prog 6 #[v, u] w fun e w' => e = .returned (.bool true) ∧ Below w.heap.size w w' := by
  obtain ⟨ad, cap, rfl, hrow⟩ := hl
  obtain ⟨ad2, cap2, rfl, hrow2⟩ := hq
  have HA : Hid (∀ W, EnvB W (Bas.of w) → Calls Tryz.prog 10 #[] W fun e w' => e = .returned (.bool true) ∧ Below w.heap.size w w') := hide (fun W hW => (awake14_any W hW.self).mono (fun e w' h => ⟨h.1, hW.bel.trans (h.2.mono hW.bel.size)⟩))
  have HNW := hide (nnew_any 3 64 w E (by decide) (by decide) (by decide) (by decide))
  have HROW := hide hrow
  have HROW2 := hide hrow2
  obtain ⟨len, hlen⟩ : ∃ len, len = L.length := ⟨_, rfl⟩
  rw [← hlen]
  have HLN := hide hlen
  obtain ⟨len2, hlen2⟩ : ∃ len2, len2 = Q.length := ⟨_, rfl⟩
  rw [← hlen2]
  have HLN2 := hide hlen2
  clear hrow hrow2 E hlen hlen2
  go_enter Tryz.func6, Tryz.ntmps6
  go_wp2_with fail
  refine (unhide HNW).mono ?_
  rintro e w1 ⟨f, q, rfl, HN1⟩
  obtain ⟨Y, hfx, _, _, _⟩ := unhide HN1
  have HEN := hide hfx.nd.env
  have HO1 := hide (open_first hfx first3 (by decide) 14 badF14 hasF14.1 hasF14.2.1)
  clear HN1 HNW hfx
  by_cases hbig : (20 : Int) < (len : Int)
  · have HAW := hide (unhide HA w1 (unhide HEN))
    clear HO1 HROW HROW2 HA
    go_wp2_with fail
    refine (unhide HAW).mono ?_
    rintro e w2 ⟨rfl, hw⟩
    have HB := hide hw
    clear hw
    go_wp2_with fail
    go_ret
    exact ⟨rfl, unhide HB⟩
  have hlen20 : len ≤ 20 := by omega
  go_wp2_with fail
  refine (unhide HO1).mono ?_
  rintro e w2 ⟨b, rfl, HX⟩
  obtain ⟨Y1, hg1⟩ := unhide HX
  have HO2 := hide (open_again hg1 rfl (by decide) 6 badF6 hasF6.1 hasF6.2.1)
  clear hg1 HX HO1 HEN
  go_wp2_with fail
  refine (unhide HO2).mono ?_
  rintro e w3 ⟨c, rfl, HX⟩
  obtain ⟨Y2, hg2⟩ := unhide HX
  have HST : Hid (EndSt w w3 f q Y2 b c [] 7) := hide ⟨_, 0, 0, rfl, by rfl, hg2⟩
  clear hg2 HX HO2
  go_wp2_with fail
  go_loopw [11, 12] (fun v u wr => ∃ (j : Nat) (al : List UInt8), u = .int .i64 (j : Int) ∧ j ≤ len ∧ v = .string (BA al) ∧ al.length ≤ 100 * j ∧ Hid (EndSt w wr f q Y2 b c al (7 + j))) (fun _ u _ => len - (intOf u).toNat)
  case atStart => exact ⟨0, [], rfl, Nat.zero_le _, rfl, Nat.zero_le _, HST⟩
  case round =>
    clear HST
    obtain ⟨j, al, rfl, hj, rfl, hal, HT⟩ := hrel
    by_cases hlt : j < len
    · have h1 : (j : Int) < (len : Int) := by omega
      have h0 : (0 : Int) ≤ (j : Int) := by omega
      obtain ⟨x, hx⟩ : ∃ x, L[j]? = some x := ⟨_, List.getElem?_eq_getElem (by have := unhide HLN; omega)⟩
      obtain ⟨g, o, had, hg, hcell⟩ := unhide HROW j x hx
      have HCC : Hid (∀ W, EnvB W (Bas.of w) → ∀ k v, w.cell? ⟨g, k, none⟩ = some v → W.cell? ⟨g, k, none⟩ = some v) := hide (fun W hW k v h => (hW.bel.cell (p := ⟨g, k, none⟩) hg).trans h)
      have q0 := unhide HCC _ (unhide HT).env _ _ hcell
      have HC0 := hide hcell
      obtain ⟨X, hX⟩ : ∃ X, X = BA x := ⟨_, rfl⟩
      obtain ⟨lx, hlx⟩ : ∃ lx, lx = x.length := ⟨_, rfl⟩
      have hXs : X.size = lx := by rw [hX, hlx]; rfl
      have HXB := hide hX
      have HLX := hide hlx
      rw [← hX] at q0
      subst had
      clear hx hg hcell hX hlx
      by_cases hb : (100 : Int) < (lx : Int)
      · have HAW := hide (unhide HA wr (unhide HT).env)
        clear HROW HROW2 HA HT
        go_wp2_with fail
        refine (unhide HAW).mono ?_
        rintro e w4 ⟨rfl, hw⟩
        have HB := hide hw
        clear hw
        go_wp2_with fail
        go_ret
        exact ⟨rfl, unhide HB⟩
      · have HW1 := hide ((unhide HT).write1 (by omega) x (by have := unhide HLX; omega))
        have HW2 := hide ((unhide HT).write2 (by omega) x (by have := unhide HLX; omega))
        rw [← unhide HXB, ← unhide HLX] at HW1 HW2
        obtain ⟨al2, hal2⟩ : ∃ al2, al2 = al ++ x := ⟨_, rfl⟩
        have hl2 : al2.length ≤ 100 * (j + 1) := by
          rw [hal2, List.length_append, ← unhide HLX]
          omega
        have HAP : Hid (BA al ++ X = BA al2) := hide (by rw [unhide HXB, BA_app14, hal2])
        rw [← hal2] at HW1 HW2
        have hsz : (BA al).size ≤ 2000 := by show al.length ≤ 2000; omega
        have HFIN : Hid (∀ W, EndSt w W f q Y2 b c al2 (7 + j + 1) → W.cell? ⟨g, o + j, none⟩ = some (.string X)) := hide (fun W hW => by
          have := unhide HCC W hW.env _ _ (unhide HC0)
          rw [← unhide HXB] at this
          exact this)
        have HENV := (unhide HT).env.bel
        clear hal2 HT HCC HC0 hal
        by_cases hin : j < len2
        · have h3 : (j : Int) < (len2 : Int) := by omega
          obtain ⟨z, hz⟩ : ∃ z, Q[j]? = some z := ⟨_, List.getElem?_eq_getElem (by have := unhide HLN2; omega)⟩
          obtain ⟨g2, o2, had2, hg2, hcell2⟩ := unhide HROW2 j z hz
          have r0 : wr.cell? ⟨g2, o2 + j, none⟩ = some (.bool z) := (HENV.cell (p := ⟨g2, o2 + j, none⟩) hg2).trans hcell2
          subst had2
          clear hz hg2 hcell2 HENV
          cases z with
          | true =>
            clear HW1 HROW HROW2
            go_wp2_with fail
            refine (unhide HW2).mono ?_
            rintro e w4 ⟨rfl, HS⟩
            have q4 := unhide HFIN w4 (unhide HS)
            clear HW2 q0
            go_wp2_with fail
            go_roundw
            case rel => exact ⟨j + 1, al2, by go_num, by omega, by rw [unhide HAP], hl2, HS⟩
            case measure => simp [intOf]; omega
          | false =>
            clear HW2 HROW HROW2
            go_wp2_with fail
            refine (unhide HW1).mono ?_
            rintro e w4 ⟨rfl, HS⟩
            have q4 := unhide HFIN w4 (unhide HS)
            clear HW1 q0
            go_wp2_with fail
            go_roundw
            case rel => exact ⟨j + 1, al2, by go_num, by omega, by rw [unhide HAP], hl2, HS⟩
            case measure => simp [intOf]; omega
        · have h3 : ¬ (j : Int) < (len2 : Int) := by omega
          clear HW2 HROW HROW2 HENV
          go_wp2_with fail
          refine (unhide HW1).mono ?_
          rintro e w4 ⟨rfl, HS⟩
          have q4 := unhide HFIN w4 (unhide HS)
          clear HW1 q0
          go_wp2_with fail
          go_roundw
          case rel => exact ⟨j + 1, al2, by go_num, by omega, by rw [unhide HAP], hl2, HS⟩
          case measure => simp [intOf]; omega
    · have h1 : ¬ (j : Int) < (len : Int) := by omega
      have HND := hide (unhide HT).node
      have HRD := hide ((unhide HT).read (by omega))
      obtain ⟨M, hM⟩ : ∃ M, M = BA al := ⟨_, rfl⟩
      rw [← hM] at HRD ⊢
      clear HT hM hal HROW HROW2
      go_wp2_with fail
      refine (unhide HND).mono ?_
      rintro e w4 ⟨rfl, hw4⟩
      have hw5 := hw4.symm
      subst hw5
      clear HND hw4
      go_wp2_with fail
      refine (unhide HRD).mono ?_
      rintro e w5 ⟨rfl, hw5⟩
      have HAW := hide (unhide HA w5 hw5)
      clear hw5 HRD
      go_wp2_with fail
      refine (unhide HAW).mono ?_
      rintro e w6 ⟨rfl, hw⟩
      have HB := hide hw
      clear hw
      go_wp2_with fail
      go_ret
      exact ⟨rfl, unhide HB⟩

end Go.Proofs.YtnpeiibecihleaaGreatDoor

/-
  FilesPass: what is written to one file, piece by piece, is read of another one, piece by piece.
-/
import Derived.Test.YtnpeiibecihleaaGreatDoorOfEnds
namespace Go.Proofs.YtnpeiibecihleaaGreatDoor
open Go.RowKit Go.Maps

/-- Both files, what is in their node, how far the second one has read. -/
def PassSt (w0 wr : World) (f q : Nat) (Y : Nat → Prop) (b c : Nat) (fl : Int) (al : List UInt8) (g n : Nat) : Prop := ∃ y, y.kind = 1 ∧ datOf y = al ∧ GX wr f q Y (oneS [none] LA parA y) 64 n (Bas.of w0) [(b, ⟨false, 2, (al.length : Int), fl⟩), (c, ⟨false, 2, (g : Int), 1⟩)]
theorem PassSt.write1 {w0 wr : World} {f q : Nat} {Y : Nat → Prop} {b c n g : Nat} {fl : Int} {al : List UInt8} (H : PassSt w0 wr f q Y b c fl al g n) (h2 : hasF fl 2 = true) (hn : n ≤ 9000) (d : List UInt8) (hd : al.length + d.length ≤ 4096) : Calls Tryz.prog 20 #[.pointer (some ⟨b, 0, none⟩), .string (BA d)] wr fun e w' => e = .returned (.tuple #[.int .i64 (d.length : Int), .int .i64 0]) ∧ Hid (PassSt w0 w' f q Y b c fl (al ++ d) g (n + 1)) := by
  obtain ⟨y, y1, y2, y3⟩ := H
  refine (write_one rfl y3 (j := 0) rfl y1 hn rfl rfl h2 (.inr (by rw [dat_siz14 y2])) d (by rw [dat_siz14 y2]; exact hd)).mono (fun e w' h => ?_)
  obtain ⟨e1, e2⟩ := h
  obtain ⟨z, z1, _, _, z4, z5⟩ := unhide e2
  refine ⟨e1, hide ⟨z, z1, by rw [z4, y2], ?_⟩⟩
  have e3 : ((y.size : Int) + (d.length : Int)) = ((al ++ d).length : Int) := by rw [dat_siz14 y2, List.length_append]; omega
  rw [e3] at z5
  exact z5
theorem PassSt.env {w0 wr : World} {f q : Nat} {Y : Nat → Prop} {b c n g : Nat} {fl : Int} {al : List UInt8} (H : PassSt w0 wr f q Y b c fl al g n) : EnvB wr (Bas.of w0) := by
  obtain ⟨y, h1, h2, h3⟩ := H
  exact h3.fx.nd.env
theorem PassSt.at1 {w0 wr : World} {f q : Nat} {Y : Nat → Prop} {b c n g : Nat} {fl : Int} {al : List UInt8} (H : PassSt w0 wr f q Y b c fl al g n) : Calls Tryz.prog 22 #[.pointer (some ⟨b, 0, none⟩)] wr fun e w' => e = .returned (.int .i64 (al.length : Int)) ∧ w' = wr := by
  obtain ⟨y, h1, h2, h3⟩ := H
  exact xat_any (h3.blk 0 b _ rfl)
theorem PassSt.at2 {w0 wr : World} {f q : Nat} {Y : Nat → Prop} {b c n g : Nat} {fl : Int} {al : List UInt8} (H : PassSt w0 wr f q Y b c fl al g n) : Calls Tryz.prog 22 #[.pointer (some ⟨c, 0, none⟩)] wr fun e w' => e = .returned (.int .i64 (g : Int)) ∧ w' = wr := by
  obtain ⟨y, h1, h2, h3⟩ := H
  exact xat_any (h3.blk 1 c _ rfl)
theorem PassSt.bad {w0 wr : World} {f q : Nat} {Y : Nat → Prop} {b c n g : Nat} {fl : Int} {al : List UInt8} (H : PassSt w0 wr f q Y b c fl al g n) (m : Int) (hm : m < 0) : Calls Tryz.prog 21 #[.pointer (some ⟨c, 0, none⟩), .int .i64 m] wr fun e w' => e = .returned (.tuple #[.string ⟨#[]⟩, .int .i64 1]) ∧ Hid (PassSt w0 w' f q Y b c fl al g n) := by
  obtain ⟨y, y1, y2, y3⟩ := H
  refine (read_one y3 (j := 1) rfl y1 rfl rfl hasF1.2.2 (a := g) rfl m).mono (fun e w' h => ?_)
  obtain ⟨e1, e2⟩ := h
  rw [if_pos hm, if_pos hm] at e1
  rw [if_pos hm] at e2
  exact ⟨e1, hide ⟨y, y1, y2, by have := unhide e2; simpa using this⟩⟩
theorem PassSt.read {w0 wr : World} {f q : Nat} {Y : Nat → Prop} {b c n g : Nat} {fl : Int} {al : List UInt8} (H : PassSt w0 wr f q Y b c fl al g n) (m : Int) (hm : ¬ m < 0) : Calls Tryz.prog 21 #[.pointer (some ⟨c, 0, none⟩), .int .i64 m] wr fun e w' => e = .returned (.tuple #[.string (BA ((al.drop g).take m.toNat)), .int .i64 0]) ∧ Hid (PassSt w0 w' f q Y b c fl al (g + ((al.drop g).take m.toNat).length) n) := by
  obtain ⟨y, y1, y2, y3⟩ := H
  refine (read_one y3 (j := 1) rfl y1 rfl rfl hasF1.2.2 (a := g) rfl m).mono (fun e w' h => ?_)
  obtain ⟨e1, e2⟩ := h
  rw [if_neg hm, if_neg hm, y2] at e1
  rw [if_neg hm, y2] at e2
  exact ⟨e1, hide ⟨y, y1, y2, by have := unhide e2; rw [← Int.natCast_add] at this; exact this⟩⟩
theorem pre_take {gl al : List UInt8} (h : gl <+: al) (m : Nat) : gl ++ (al.drop gl.length).take m <+: al := by
  obtain ⟨r, rfl⟩ := h
  rw [List.drop_left]
  exact (List.prefix_append_right_inj gl).2 (List.take_prefix m r)
theorem BA_extract (al gl : List UInt8) (h : gl <+: al) : (BA al).extract 0 gl.length = BA gl := by
  apply ByteArray.ext
  obtain ⟨r, rfl⟩ := h
  simp [BA]
theorem or_10_4 : bits .or .i64 10 4 = 14 := by kernel_rfl
set_option maxRecDepth 20000 in
set_option maxHeartbeats 8000000 in
theorem filespass_walk (v u : Value) (en : Bool) (L : List (List UInt8)) (Q : List Int) (w : World) (E : EnvB w (Bas.of w)) (hl : SRow w v L) (hq : IRow w u Q) : Calls Tryz.prog 4 #[v, u, .bool en] w fun e w' => e = .returned (.bool true) ∧ Below w.heap.size w w' := by
  obtain ⟨ad, cap, rfl, hrow⟩ := hl
  obtain ⟨ad2, cap2, rfl, hrow2⟩ := hq
  have HA : Hid (∀ W, EnvB W (Bas.of w) → Calls Tryz.prog 10 #[] W fun e w' => e = .returned (.bool true) ∧ Below w.heap.size w w') := hide (fun W hW => (awake14_any W hW.self).mono (fun e w' h => ⟨h.1, hW.bel.trans (h.2.mono hW.bel.size)⟩))
  have HNW := hide (nnew_any 3 64 w E (by decide) (by decide) (by decide) (by decide))
  have HROW := hide hrow
  have HROW2 := hide hrow2
  obtain ⟨len, hlen⟩ : ∃ len, len = L.length := ⟨_, rfl⟩
  rw [← hlen]
  have HLN := hide hlen
  obtain ⟨len2, hlen2⟩ : ∃ len2, len2 = Q.length := ⟨_, rfl⟩
  rw [← hlen2]
  have HLN2 := hide hlen2
  clear hrow hrow2 E hlen hlen2
  by_cases hbig : (30 : Int) < (len : Int) ∨ (100 : Int) < (len2 : Int)
  · have hb1 : (30 : Int) < (len : Int) ∨ (¬ (30 : Int) < (len : Int) ∧ (100 : Int) < (len2 : Int)) := by omega
    clear hbig
    rcases hb1 with hb1 | ⟨hb0, hb1⟩
    all_goals
      go_enter Tryz.func4, Tryz.ntmps4
      go_wp2_with fail
      refine (unhide HNW).mono ?_
      rintro e w1 ⟨f, q, rfl, HN1⟩
      obtain ⟨Y, hfx, _, _, _⟩ := unhide HN1
      have HAW := hide (unhide HA w1 hfx.nd.env)
      clear HROW HROW2 HA HNW HN1 hfx
      go_wp2_with fail
      refine (unhide HAW).mono ?_
      rintro e w2 ⟨rfl, hw⟩
      have HB := hide hw
      clear hw
      go_wp2_with fail
      go_ret
      exact ⟨rfl, unhide HB⟩
  have hb1 : ¬ (30 : Int) < (len : Int) := by omega
  have hb2 : ¬ (100 : Int) < (len2 : Int) := by omega
  have hlen20 : len ≤ 30 := by omega
  have hlen21 : len2 ≤ 100 := by omega
  clear hbig
  have hor := or_10_4
  cases en with
  | true =>
    go_enter Tryz.func4, Tryz.ntmps4
    go_wp2_with fail
    refine (unhide HNW).mono ?_
    rintro e w1 ⟨f, q, rfl, HN1⟩
    obtain ⟨Y, hfx, _, _, _⟩ := unhide HN1
    have HO1 := hide (open_first hfx first3 (by decide) 14 badF14 hasF14.1 hasF14.2.1)
    clear HN1 HNW hfx
    go_wp2_with fail
    refine (unhide HO1).mono ?_
    rintro e w2 ⟨b, rfl, HX⟩
    obtain ⟨Y1, hg1⟩ := unhide HX
    have HO2 := hide (open_again hg1 rfl (by decide) 1 badF1 hasF1.1 hasF1.2.1)
    clear hg1 HX HO1 hb1 hb2 hor
    go_wp2_with fail
    refine (unhide HO2).mono ?_
    rintro e w3 ⟨c, rfl, HX⟩
    obtain ⟨Y2, hg2⟩ := unhide HX
    have HST : Hid (PassSt w w3 f q Y2 b c 14 [] 0 7) := hide ⟨_, rfl, by rfl, hg2⟩
    clear hg2 HX HO2
    go_wp2_with fail
    go_loopw [14, 15] (fun v u wr => ∃ (j : Nat) (al : List UInt8), u = .int .i64 (j : Int) ∧ j ≤ len ∧ v = .string (BA al) ∧ al.length ≤ 100 * j ∧ Hid (PassSt w wr f q Y2 b c 14 al 0 (7 + j))) (fun _ u _ => len - (intOf u).toNat)
    case atStart => exact ⟨0, [], rfl, Nat.zero_le _, rfl, Nat.zero_le _, HST⟩
    case round =>
      clear HST
      obtain ⟨j, al, rfl, hj, rfl, hal, HT⟩ := hrel
      by_cases hlt : j < len
      · have h1 : (j : Int) < (len : Int) := by omega
        have h0 : (0 : Int) ≤ (j : Int) := by omega
        obtain ⟨x, hx⟩ : ∃ x, L[j]? = some x := ⟨_, List.getElem?_eq_getElem (by have := unhide HLN; omega)⟩
        obtain ⟨g, o, had, hg, hcell⟩ := unhide HROW j x hx
        have HCC : Hid (∀ W, EnvB W (Bas.of w) → ∀ k v, w.cell? ⟨g, k, none⟩ = some v → W.cell? ⟨g, k, none⟩ = some v) := hide (fun W hW k v h => (hW.bel.cell (p := ⟨g, k, none⟩) hg).trans h)
        have q0 := unhide HCC _ (unhide HT).env _ _ hcell
        have HC0 := hide hcell
        obtain ⟨X, hX⟩ : ∃ X, X = BA x := ⟨_, rfl⟩
        obtain ⟨lx, hlx⟩ : ∃ lx, lx = x.length := ⟨_, rfl⟩
        have hXs : X.size = lx := by rw [hX, hlx]; rfl
        have HXB := hide hX
        have HLX := hide hlx
        rw [← hX] at q0
        subst had
        clear hx hg hcell hX hlx HROW2
        by_cases hb : (100 : Int) < (lx : Int)
        · have HAW := hide (unhide HA wr (unhide HT).env)
          clear HROW HA HT
          go_wp2_with fail
          refine (unhide HAW).mono ?_
          rintro e w4 ⟨rfl, hw⟩
          have HB := hide hw
          clear hw
          go_wp2_with fail
          go_ret
          exact ⟨rfl, unhide HB⟩
        · have HW1 := hide ((unhide HT).write1 hasF14.2.2.1 (by omega) x (by have := unhide HLX; omega))
          rw [← unhide HXB, ← unhide HLX] at HW1
          obtain ⟨al2, hal2⟩ : ∃ al2, al2 = al ++ x := ⟨_, rfl⟩
          have hl2 : al2.length ≤ 100 * (j + 1) := by
            rw [hal2, List.length_append, ← unhide HLX]
            omega
          have HAP : Hid (BA al ++ X = BA al2) := hide (by rw [unhide HXB, BA_app14, hal2])
          rw [← hal2] at HW1
          have hsz : (BA al).size ≤ 3000 := by show al.length ≤ 3000; omega
          have HFIN : Hid (∀ W, PassSt w W f q Y2 b c 14 al2 0 (7 + j + 1) → W.cell? ⟨g, o + j, none⟩ = some (.string X)) := hide (fun W hW => by
            have := unhide HCC W hW.env _ _ (unhide HC0)
            rw [← unhide HXB] at this
            exact this)
          clear hal2 HT HCC HC0 hal HROW
          go_wp2_with fail
          refine (unhide HW1).mono ?_
          rintro e w4 ⟨rfl, HS⟩
          have q4 := unhide HFIN w4 (unhide HS)
          clear HW1 q0
          go_wp2_with fail
          go_roundw
          case rel => exact ⟨j + 1, al2, by go_num, by omega, by rw [unhide HAP], hl2, HS⟩
          case measure => simp [intOf]; omega
      · have h1 : ¬ (j : Int) < (len : Int) := by omega
        have hal3 : al.length ≤ 3000 := by omega
        obtain ⟨la, hla⟩ : ∃ la, la = al.length := ⟨_, rfl⟩
        obtain ⟨M, hM⟩ : ∃ M, M = BA al := ⟨_, rfl⟩
        have hMs : M.size = la := by rw [hM, hla]; rfl
        rw [← hla] at hal3
        have HLA := hide hla
        have HMB := hide hM
        have HAT : Hid (∀ W g, PassSt w W f q Y2 b c 14 al g (7 + j) → Calls Tryz.prog 22 #[.pointer (some ⟨b, 0, none⟩)] W fun e w' => e = .returned (.int .i64 (la : Int)) ∧ w' = W) := hide (fun W g h => by rw [hla]; exact h.at1)
        rw [← hM]
        obtain ⟨nn, hnn⟩ : ∃ nn, nn = 7 + j := ⟨_, rfl⟩
        rw [← hnn] at HT HAT
        obtain ⟨wq, hwq⟩ : ∃ wq, wq = wr := ⟨_, rfl⟩
        subst hwq
        clear hla hM hal hlt hnn HROW HLN
        go_wp2_with fail
        clear h1 hj
        go_loopw [18, 19] (fun v u wr => ∃ (k : Nat) (gl : List UInt8), u = .int .i64 (k : Int) ∧ k ≤ len2 ∧ v = .string (BA gl) ∧ gl.length ≤ la ∧ Hid (gl <+: al ∧ PassSt w wr f q Y2 b c 14 al gl.length nn)) (fun _ u _ => len2 - (intOf u).toNat)
        case atStart => exact ⟨0, [], rfl, Nat.zero_le _, rfl, Nat.zero_le _, hide ⟨List.nil_prefix, unhide HT⟩⟩
        case round =>
          clear HT
          obtain ⟨k, gl, rfl, hk, rfl, hgl, HS⟩ := hrel
          obtain ⟨lg, hlg⟩ : ∃ lg, lg = gl.length := ⟨_, rfl⟩
          obtain ⟨G, hG⟩ : ∃ G, G = BA gl := ⟨_, rfl⟩
          have hGs : G.size = lg := by rw [hG, hlg]; rfl
          have HLG := hide hlg
          have HGB := hide hG
          rw [← hlg] at hgl HS
          rw [← hG]
          by_cases hlt : k < len2
          · have h1 : (k : Int) < (len2 : Int) := by omega
            have h0 : (0 : Int) ≤ (k : Int) := by omega
            obtain ⟨r, hr⟩ : ∃ r, Q[k]? = some r := ⟨_, List.getElem?_eq_getElem (by have := unhide HLN2; omega)⟩
            obtain ⟨⟨g, o, had, hg, hcell⟩, hr1, hr2⟩ := unhide HROW2 k r hr
            have HCC : Hid (∀ W, EnvB W (Bas.of w) → W.cell? ⟨g, o + k, none⟩ = some (.int .i64 r)) := hide (fun W hW => (hW.bel.cell (p := ⟨g, o + k, none⟩) hg).trans hcell)
            have q0 := unhide HCC _ (unhide HS).2.env
            subst had
            clear hr hg hcell hlg hG HROW2
            by_cases hneg : r < 0
            · have HRD := hide ((unhide HS).2.bad r hneg)
              clear HAT
              go_wp2_with fail
              refine (unhide HRD).mono ?_
              rintro e w4 ⟨rfl, HP⟩
              have q4 := unhide HCC _ (unhide HP).env
              have HS2 := hide (And.intro (unhide HS).1 (unhide HP))
              clear HRD q0 HP HS
              go_wp2_with fail
              go_roundw
              case rel => exact ⟨k + 1, gl, by go_num, by omega, by rw [unhide HGB], by rw [← unhide HLG]; exact hgl, by rw [← unhide HLG]; exact HS2⟩
              case measure => simp [intOf]; omega
            · have HRD := hide ((unhide HS).2.read r hneg)
              obtain ⟨sl, hsl⟩ : ∃ sl, sl = (al.drop lg).take r.toNat := ⟨_, rfl⟩
              rw [← hsl] at HRD
              obtain ⟨ls, hls⟩ : ∃ ls, ls = sl.length := ⟨_, rfl⟩
              have hlen3 : ls = min r.toNat (la - lg) := by rw [hls, hsl, List.length_take, List.length_drop, ← unhide HLA]
              obtain ⟨S, hS⟩ : ∃ S, S = BA sl := ⟨_, rfl⟩
              have hSs : S.size = ls := by rw [hS, hls]; rfl
              have hmin : min r ((la : Int) - (lg : Int)) = (ls : Int) := by omega
              have hls2 : lg + ls ≤ la := by omega
              have HPR : Hid (gl ++ sl <+: al) := hide (by rw [hsl, unhide HLG]; exact pre_take (unhide HS).1 _)
              have HAP : Hid (G ++ S = BA (gl ++ sl)) := hide (by rw [unhide HGB, hS, BA_app14])
              have HLL : Hid ((gl ++ sl).length = lg + ls) := hide (by rw [List.length_append, ← unhide HLG, ← hls])
              rw [← hS, ← hls] at HRD
              clear hsl hls hS hlen3 HAT HS
              go_wp2_with fail
              refine (unhide HRD).mono ?_
              rintro e w4 ⟨rfl, HP⟩
              have q4 := unhide HCC _ (unhide HP).env
              clear HRD q0
              go_wp2_with fail
              go_roundw
              case rel => exact ⟨k + 1, gl ++ sl, by go_num, by omega, by rw [unhide HAP], by rw [unhide HLL]; exact hls2, hide ⟨unhide HPR, by rw [unhide HLL]; exact unhide HP⟩⟩
              case measure => simp [intOf]; omega
          · have h1 : ¬ (k : Int) < (len2 : Int) := by omega
            have hext : M.extract 0 lg = G := by rw [unhide HMB, unhide HGB, hlg]; exact BA_extract al gl (unhide HS).1
            have HA1 := hide (unhide HAT _ _ (unhide HS).2)
            have HA2 := hide (unhide HS).2.at2
            have HAW := hide (unhide HA _ (unhide HS).2.env)
            clear hlg hG HS HAT hlt HROW2 HA
            go_wp2_with fail
            refine (unhide HA1).mono ?_
            rintro e w4 ⟨rfl, hw4⟩
            have hw5 := hw4.symm
            subst hw5
            clear HA1 hw4
            go_wp2_with fail
            refine (unhide HA2).mono ?_
            rintro e w4 ⟨rfl, hw4⟩
            have hw5 := hw4.symm
            subst hw5
            clear HA2 hw4
            go_wp2_with fail
            refine (unhide HAW).mono ?_
            rintro e w5 ⟨rfl, hw⟩
            have HB := hide hw
            clear hw
            go_wp2_with fail
            go_ret
            exact ⟨rfl, unhide HB⟩
  | false =>
    go_enter Tryz.func4, Tryz.ntmps4
    go_wp2_with fail
    refine (unhide HNW).mono ?_
    rintro e w1 ⟨f, q, rfl, HN1⟩
    obtain ⟨Y, hfx, _, _, _⟩ := unhide HN1
    have HO1 := hide (open_first hfx first3 (by decide) 10 badF10 hasF10.1 hasF10.2.1)
    clear HN1 HNW hfx
    go_wp2_with fail
    refine (unhide HO1).mono ?_
    rintro e w2 ⟨b, rfl, HX⟩
    obtain ⟨Y1, hg1⟩ := unhide HX
    have HO2 := hide (open_again hg1 rfl (by decide) 1 badF1 hasF1.1 hasF1.2.1)
    clear hg1 HX HO1 hb1 hb2 hor
    go_wp2_with fail
    refine (unhide HO2).mono ?_
    rintro e w3 ⟨c, rfl, HX⟩
    obtain ⟨Y2, hg2⟩ := unhide HX
    have HST : Hid (PassSt w w3 f q Y2 b c 10 [] 0 7) := hide ⟨_, rfl, by rfl, hg2⟩
    clear hg2 HX HO2
    go_wp2_with fail
    go_loopw [14, 15] (fun v u wr => ∃ (j : Nat) (al : List UInt8), u = .int .i64 (j : Int) ∧ j ≤ len ∧ v = .string (BA al) ∧ al.length ≤ 100 * j ∧ Hid (PassSt w wr f q Y2 b c 10 al 0 (7 + j))) (fun _ u _ => len - (intOf u).toNat)
    case atStart => exact ⟨0, [], rfl, Nat.zero_le _, rfl, Nat.zero_le _, HST⟩
    case round =>
      clear HST
      obtain ⟨j, al, rfl, hj, rfl, hal, HT⟩ := hrel
      by_cases hlt : j < len
      · have h1 : (j : Int) < (len : Int) := by omega
        have h0 : (0 : Int) ≤ (j : Int) := by omega
        obtain ⟨x, hx⟩ : ∃ x, L[j]? = some x := ⟨_, List.getElem?_eq_getElem (by have := unhide HLN; omega)⟩
        obtain ⟨g, o, had, hg, hcell⟩ := unhide HROW j x hx
        have HCC : Hid (∀ W, EnvB W (Bas.of w) → ∀ k v, w.cell? ⟨g, k, none⟩ = some v → W.cell? ⟨g, k, none⟩ = some v) := hide (fun W hW k v h => (hW.bel.cell (p := ⟨g, k, none⟩) hg).trans h)
        have q0 := unhide HCC _ (unhide HT).env _ _ hcell
        have HC0 := hide hcell
        obtain ⟨X, hX⟩ : ∃ X, X = BA x := ⟨_, rfl⟩
        obtain ⟨lx, hlx⟩ : ∃ lx, lx = x.length := ⟨_, rfl⟩
        have hXs : X.size = lx := by rw [hX, hlx]; rfl
        have HXB := hide hX
        have HLX := hide hlx
        rw [← hX] at q0
        subst had
        clear hx hg hcell hX hlx HROW2
        by_cases hb : (100 : Int) < (lx : Int)
        · have HAW := hide (unhide HA wr (unhide HT).env)
          clear HROW HA HT
          go_wp2_with fail
          refine (unhide HAW).mono ?_
          rintro e w4 ⟨rfl, hw⟩
          have HB := hide hw
          clear hw
          go_wp2_with fail
          go_ret
          exact ⟨rfl, unhide HB⟩
        · have HW1 := hide ((unhide HT).write1 hasF10.2.2.1 (by omega) x (by have := unhide HLX; omega))
          rw [← unhide HXB, ← unhide HLX] at HW1
          obtain ⟨al2, hal2⟩ : ∃ al2, al2 = al ++ x := ⟨_, rfl⟩
          have hl2 : al2.length ≤ 100 * (j + 1) := by
            rw [hal2, List.length_append, ← unhide HLX]
            omega
          have HAP : Hid (BA al ++ X = BA al2) := hide (by rw [unhide HXB, BA_app14, hal2])
          rw [← hal2] at HW1
          have hsz : (BA al).size ≤ 3000 := by show al.length ≤ 3000; omega
          have HFIN : Hid (∀ W, PassSt w W f q Y2 b c 10 al2 0 (7 + j + 1) → W.cell? ⟨g, o + j, none⟩ = some (.string X)) := hide (fun W hW => by
            have := unhide HCC W hW.env _ _ (unhide HC0)
            rw [← unhide HXB] at this
            exact this)
          clear hal2 HT HCC HC0 hal HROW
          go_wp2_with fail
          refine (unhide HW1).mono ?_
          rintro e w4 ⟨rfl, HS⟩
          have q4 := unhide HFIN w4 (unhide HS)
          clear HW1 q0
          go_wp2_with fail
          go_roundw
          case rel => exact ⟨j + 1, al2, by go_num, by omega, by rw [unhide HAP], hl2, HS⟩
          case measure => simp [intOf]; omega
      · have h1 : ¬ (j : Int) < (len : Int) := by omega
        have hal3 : al.length ≤ 3000 := by omega
        obtain ⟨la, hla⟩ : ∃ la, la = al.length := ⟨_, rfl⟩
        obtain ⟨M, hM⟩ : ∃ M, M = BA al := ⟨_, rfl⟩
        have hMs : M.size = la := by rw [hM, hla]; rfl
        rw [← hla] at hal3
        have HLA := hide hla
        have HMB := hide hM
        have HAT : Hid (∀ W g, PassSt w W f q Y2 b c 10 al g (7 + j) → Calls Tryz.prog 22 #[.pointer (some ⟨b, 0, none⟩)] W fun e w' => e = .returned (.int .i64 (la : Int)) ∧ w' = W) := hide (fun W g h => by rw [hla]; exact h.at1)
        rw [← hM]
        obtain ⟨nn, hnn⟩ : ∃ nn, nn = 7 + j := ⟨_, rfl⟩
        rw [← hnn] at HT HAT
        obtain ⟨wq, hwq⟩ : ∃ wq, wq = wr := ⟨_, rfl⟩
        subst hwq
        clear hla hM hal hlt hnn HROW HLN
        go_wp2_with fail
        clear h1 hj
        go_loopw [18, 19] (fun v u wr => ∃ (k : Nat) (gl : List UInt8), u = .int .i64 (k : Int) ∧ k ≤ len2 ∧ v = .string (BA gl) ∧ gl.length ≤ la ∧ Hid (gl <+: al ∧ PassSt w wr f q Y2 b c 10 al gl.length nn)) (fun _ u _ => len2 - (intOf u).toNat)
        case atStart => exact ⟨0, [], rfl, Nat.zero_le _, rfl, Nat.zero_le _, hide ⟨List.nil_prefix, unhide HT⟩⟩
        case round =>
          clear HT
          obtain ⟨k, gl, rfl, hk, rfl, hgl, HS⟩ := hrel
          obtain ⟨lg, hlg⟩ : ∃ lg, lg = gl.length := ⟨_, rfl⟩
          obtain ⟨G, hG⟩ : ∃ G, G = BA gl := ⟨_, rfl⟩
          have hGs : G.size = lg := by rw [hG, hlg]; rfl
          have HLG := hide hlg
          have HGB := hide hG
          rw [← hlg] at hgl HS
          rw [← hG]
          by_cases hlt : k < len2
          · have h1 : (k : Int) < (len2 : Int) := by omega
            have h0 : (0 : Int) ≤ (k : Int) := by omega
            obtain ⟨r, hr⟩ : ∃ r, Q[k]? = some r := ⟨_, List.getElem?_eq_getElem (by have := unhide HLN2; omega)⟩
            obtain ⟨⟨g, o, had, hg, hcell⟩, hr1, hr2⟩ := unhide HROW2 k r hr
            have HCC : Hid (∀ W, EnvB W (Bas.of w) → W.cell? ⟨g, o + k, none⟩ = some (.int .i64 r)) := hide (fun W hW => (hW.bel.cell (p := ⟨g, o + k, none⟩) hg).trans hcell)
            have q0 := unhide HCC _ (unhide HS).2.env
            subst had
            clear hr hg hcell hlg hG HROW2
            by_cases hneg : r < 0
            · have HRD := hide ((unhide HS).2.bad r hneg)
              clear HAT
              go_wp2_with fail
              refine (unhide HRD).mono ?_
              rintro e w4 ⟨rfl, HP⟩
              have q4 := unhide HCC _ (unhide HP).env
              have HS2 := hide (And.intro (unhide HS).1 (unhide HP))
              clear HRD q0 HP HS
              go_wp2_with fail
              go_roundw
              case rel => exact ⟨k + 1, gl, by go_num, by omega, by rw [unhide HGB], by rw [← unhide HLG]; exact hgl, by rw [← unhide HLG]; exact HS2⟩
              case measure => simp [intOf]; omega
            · have HRD := hide ((unhide HS).2.read r hneg)
              obtain ⟨sl, hsl⟩ : ∃ sl, sl = (al.drop lg).take r.toNat := ⟨_, rfl⟩
              rw [← hsl] at HRD
              obtain ⟨ls, hls⟩ : ∃ ls, ls = sl.length := ⟨_, rfl⟩
              have hlen3 : ls = min r.toNat (la - lg) := by rw [hls, hsl, List.length_take, List.length_drop, ← unhide HLA]
              obtain ⟨S, hS⟩ : ∃ S, S = BA sl := ⟨_, rfl⟩
              have hSs : S.size = ls := by rw [hS, hls]; rfl
              have hmin : min r ((la : Int) - (lg : Int)) = (ls : Int) := by omega
              have hls2 : lg + ls ≤ la := by omega
              have HPR : Hid (gl ++ sl <+: al) := hide (by rw [hsl, unhide HLG]; exact pre_take (unhide HS).1 _)
              have HAP : Hid (G ++ S = BA (gl ++ sl)) := hide (by rw [unhide HGB, hS, BA_app14])
              have HLL : Hid ((gl ++ sl).length = lg + ls) := hide (by rw [List.length_append, ← unhide HLG, ← hls])
              rw [← hS, ← hls] at HRD
              clear hsl hls hS hlen3 HAT HS
              go_wp2_with fail
              refine (unhide HRD).mono ?_
              rintro e w4 ⟨rfl, HP⟩
              have q4 := unhide HCC _ (unhide HP).env
              clear HRD q0
              go_wp2_with fail
              go_roundw
              case rel => exact ⟨k + 1, gl ++ sl, by go_num, by omega, by rw [unhide HAP], by rw [unhide HLL]; exact hls2, hide ⟨unhide HPR, by rw [unhide HLL]; exact unhide HP⟩⟩
              case measure => simp [intOf]; omega
          · have h1 : ¬ (k : Int) < (len2 : Int) := by omega
            have hext : M.extract 0 lg = G := by rw [unhide HMB, unhide HGB, hlg]; exact BA_extract al gl (unhide HS).1
            have HA1 := hide (unhide HAT _ _ (unhide HS).2)
            have HA2 := hide (unhide HS).2.at2
            have HAW := hide (unhide HA _ (unhide HS).2.env)
            clear hlg hG HS HAT hlt HROW2 HA
            go_wp2_with fail
            refine (unhide HA1).mono ?_
            rintro e w4 ⟨rfl, hw4⟩
            have hw5 := hw4.symm
            subst hw5
            clear HA1 hw4
            go_wp2_with fail
            refine (unhide HA2).mono ?_
            rintro e w4 ⟨rfl, hw4⟩
            have hw5 := hw4.symm
            subst hw5
            clear HA2 hw4
            go_wp2_with fail
            refine (unhide HAW).mono ?_
            rintro e w5 ⟨rfl, hw⟩
            have HB := hide hw
            clear hw
            go_wp2_with fail
            go_ret
            exact ⟨rfl, unhide HB⟩

end Go.Proofs.YtnpeiibecihleaaGreatDoor

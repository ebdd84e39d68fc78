/-
  The law VarsPlays walked.
-/
import Derived.Test.YtbcbnoeplapblaaGreatDoorVBoth
import Derived.Test.YtbcbnoeplapblaaGreatDoorREnv
import Derived.Test.YtbcbnoeplapblaaGreatDoorVPlain
import Derived.Deep.RegionHeld3
import Derived.BigQuiet
namespace Go.Proofs.YtbcbnoeplapblaaGreatDoor
open Go.RowKit Go.Maps

/-- Where the law's loop stands. -/
structure PlAt (w : World) (bv br : Nat) (k : Nat) (wr : World) (s : VSt) : Prop where
  at_ : DAt w bv br wr s s
  small : Small s k
  short : ValsOk s.L
set_option maxRecDepth 20000 in
set_option maxHeartbeats 16000000 in
theorem plays_walk (a v : Value) (A : List (List UInt8)) (L : List OpP) (w : World) (ha : AIn w a A) (hr : RoomOk a) (h : OpsAt w v L) (hf : OpsFine w v) :
    Calls Tryz.prog 3 #[a, v] w fun e w' => e = .returned (.bool true) ∧ Below w.heap.size w w' := by
  have HAW : Hid (∀ W, Below w.heap.size w W → Calls Tryz.prog 6 #[] W fun e w' => e = .returned (.bool true) ∧ Below w.heap.size w w') := hide (fun W hW => (awake_any W).mono (fun e w' ⟨h1, h2⟩ => ⟨h1, hW.trans (h2.mono hW.size)⟩))
  have HFW : Hid (Calls Tryz.prog 5 #[v] w fun e w' => e = .returned (.bool (fwB L)) ∧ w' = w) := hide (few_any v L w h)
  have HTX : Hid (Calls Tryz.prog 4 #[a] w fun e w' => e = .returned (.bool (txB A)) ∧ w' = w) := hide (texts_any a A w ha)
  have HH := hide h
  have HF := hide hf
  have HA := hide (And.intro ha hr)
  obtain ⟨aa, acap, hae, _⟩ := ha
  obtain ⟨na, hna⟩ : ∃ n, n = A.length := ⟨_, rfl⟩
  rw [← hna] at hae
  subst hae
  obtain ⟨ad, cap, rfl, hm, _⟩ := h
  obtain ⟨n, hn⟩ : ∃ n, n = L.length := ⟨_, rfl⟩
  have HN := hide hn
  rw [← hn] at hm HFW HH HF ⊢
  rw [max63] at hm
  clear hn hf hr hna
  cases htb : txB A with
  | false =>
    rw [htb] at HTX
    clear htb HH HN HFW HF HA
    go_enter Tryz.func3, Tryz.ntmps3
    go_wp2_with fail
    refine (unhide HTX).mono ?_
    rintro e w1 ⟨rfl, hw1⟩
    rw [show w1 = w from hw1]
    clear hw1
    go_wp2_with fail
    refine (unhide HAW _ (Below.refl _ _)).mono ?_
    rintro e w2 ⟨rfl, b2⟩
    have HB2 := hide b2
    clear b2
    go_wp2
    go_ret
    exact ⟨rfl, unhide HB2⟩
  | true =>
    rw [htb] at HTX
    have HTB := hide htb
    clear htb
    cases hfb : fwB L with
    | false =>
      rw [hfb] at HFW
      clear hfb HH HN HF HA HTB
      go_enter Tryz.func3, Tryz.ntmps3
      go_wp2_with fail
      refine (unhide HTX).mono ?_
      rintro e w1 ⟨rfl, hw1⟩
      rw [show w1 = w from hw1]
      clear hw1
      go_wp2_with fail
      refine (unhide HFW).mono ?_
      rintro e w1 ⟨rfl, hw1⟩
      rw [show w1 = w from hw1]
      clear hw1
      go_wp2_with fail
      refine (unhide HAW _ (Below.refl _ _)).mono ?_
      rintro e w2 ⟨rfl, b2⟩
      have HB2 := hide b2
      clear b2
      go_wp2
      go_ret
      exact ⟨rfl, unhide HB2⟩
    | true =>
      rw [hfb] at HFW
      have HFB := hide hfb
      clear hfb
      have HTA : Hid (A.length ≤ 20 ∧ ∀ x ∈ A, x.length ≤ 200) := hide (by
        have := unhide HTB
        unfold txB at this
        simpa using this)
      have HNEW := hide (new_any [122, 101, 114, 111] _ A w (unhide HA).1 (by have := (unhide HTA).1; omega))
      go_enter Tryz.func3, Tryz.ntmps3
      go_wp2_with fail
      refine (unhide HTX).mono ?_
      rintro e w1 ⟨rfl, hw1⟩
      rw [show w1 = w from hw1]
      clear hw1
      go_wp2_with fail
      refine (unhide HFW).mono ?_
      rintro e w1 ⟨rfl, hw1⟩
      rw [show w1 = w from hw1]
      clear hw1
      go_wp2_with fail
      refine (unhide HNEW).mono ?_
      obtain ⟨b, hb⟩ : ∃ b, b = w.heap.size := ⟨_, rfl⟩
      rw [← hb]
      rintro e w2 ⟨rfl, v2, b2⟩
      rw [hb] at b2
      obtain ⟨br, hbr⟩ : ∃ br, br = w2.heap.size := ⟨_, rfl⟩
      have HI0 : Hid (PlAt w b br 0 (w2.alloc (.cells #[.slice none 0 0, .string (BA [122, 101, 114, 111]), .slice aa na acap, .int .i64 0] 32)) ⟨[122, 101, 114, 111], A, [], 0⟩) := hide ⟨by rw [hbr]; exact DAt.new (by rw [hb] at v2 ⊢; exact v2) b2 (unhide HA).1 (unhide HA).2, ⟨Nat.zero_le _, (unhide HTA).1, (unhide HTA).2, ⟨by show (-9223372036854775808 : Int) ≤ 0; decide, by show (0 : Int) ≤ 9223372036854775807; decide⟩⟩, fun x hx => by simp at hx⟩
      clear v2 b2 hb HNEW HFW HTX
      go_wp2_with fail
      rw [← hbr]
      clear hbr
      go_loopw [4, 7] (fun rv iv wr => ∃ (k : Nat) (s : VSt), rv = .bool false ∧ iv = .int .i64 k ∧ k ≤ n ∧ Hid (PlAt w b br k wr s)) (fun _ iv _ => n - (intOf iv).toNat)
      case atStart => exact ⟨0, _, rfl, rfl, Nat.zero_le _, HI0⟩
      case round =>
        obtain ⟨k, s, rfl, rfl, hk, HI⟩ := hrel
        clear HI0
        by_cases hlt : k < n
        · obtain ⟨o, ho⟩ := get_ex (l := L) (k := k) (by have := unhide HN; omega)
          obtain ⟨g, q, u, had, hg, a0, a1, a2, a3, a4, a5⟩ := (unhide HH).op ho
          subst had
          obtain ⟨ho1, ho2, ho3⟩ := opB_of (unhide HFB) ho
          have hoz := opB_args (unhide HFB) ho
          obtain ⟨f1, f2⟩ := unhide HF g q n cap rfl k hlt
          have hon := f1 _ a3
          have hrm := f2 _ a4
          have hn60 : n ≤ 60 := by have := len_of (unhide HFB); have := unhide HN; omega
          have HS' := hide ((unhide HI).small.step o ho3 hoz hon)
          have HSH := hide (step_short (unhide HI).short o ho1 ho2)
          obtain ⟨au, ac, hu, _⟩ := id a5
          have HDO := hide ((unhide HI).at_.do_ o u a5 ho3 ho1 (by have := (unhide HI).small.few; omega) (unhide HI).small.args)
          have HAS : Hid (∀ w1, DAt w b br w1 (stepS s o).1 s → Calls Tryz.prog 9 #[.pointer (some ⟨br, 0, none⟩), opV o u] w1 fun e w2 => e = .returned (.int .i64 (stepS s o).2) ∧ DAt w b br w2 (stepS s o).1 (stepS s o).1) := hide (fun w1 h1 => h1.ask o u a5 hrm ho1 (by have := (unhide HI).small.few; omega))
          obtain ⟨al, hal⟩ : ∃ al, al = o.args.length := ⟨_, rfl⟩
          rw [← hal] at hu
          subst hu
          unfold opV at HDO HAS
          obtain ⟨s', hs'⟩ : ∃ s', s' = (stepS s o).1 := ⟨_, rfl⟩
          obtain ⟨e', he'⟩ : ∃ e', e' = (stepS s o).2 := ⟨_, rfl⟩
          rw [← hs', ← he'] at HDO HAS
          rw [← hs'] at HS' HSH
          obtain ⟨T, hT⟩ : ∃ T, T = (getL s'.L o.name).value := ⟨_, rfl⟩
          obtain ⟨B, hB⟩ : ∃ B, B = (getL s'.L o.name).set := ⟨_, rfl⟩
          have HGV : Hid (∀ W, DAt w b br W s' s' → Calls Tryz.prog 10 #[.pointer (some ⟨b, 0, none⟩), .string (BA o.name)] W fun e w' => e = .returned (.tuple #[.string (BA T), .bool B]) ∧ DAt w b br w' s' s') := hide (fun W hD => by
            have hD' := hD
            obtain ⟨X, Y, hV, _⟩ := hD
            rw [hT, hB]
            exact (get_any b X s' o.name W hV (by omega)).mono (fun e w' ⟨h1, h2⟩ => ⟨h1, hD'.below h2⟩))
          have HGR : Hid (∀ W, DAt w b br W s' s' → Calls Tryz.prog 11 #[.pointer (some ⟨br, 0, none⟩), .string (BA o.name)] W fun e w' => e = .returned (.tuple #[.string (BA T), .bool B]) ∧ DAt w b br w' s' s') := hide (fun W hD => by
            have hD' := hD
            obtain ⟨X, Y, _, hR, _⟩ := hD
            rw [hT, hB]
            exact (rget_any w W br Y s' o.name hR (by have := (unhide HS').few; omega)).mono (fun e w' ⟨h1, h2⟩ => ⟨h1, hD'.below h2⟩))
          have HC := hide (And.intro a0 (And.intro a1 (And.intro a2 (And.intro a3 a4))))
          have hlt1 : (k : Int) < (n : Int) := by omega
          have hk0 : (0 : Int) ≤ (k : Int) := by omega
          clear a0 a1 a2 a3 a4 a5 hal ho1 ho2 ho3 hoz f1 f2 hon hrm ho hs' he' hT hB
          have c0 := ((unhide HI).at_.under.cell (p := ⟨g, q + k * 5, none⟩) hg).trans (unhide HC).1
          have c1 := ((unhide HI).at_.under.cell (p := ⟨g, q + k * 5 + 1, none⟩) hg).trans (unhide HC).2.1
          have c2 := ((unhide HI).at_.under.cell (p := ⟨g, q + k * 5 + 2, none⟩) hg).trans (unhide HC).2.2.1
          have c3 := ((unhide HI).at_.under.cell (p := ⟨g, q + k * 5 + 3, none⟩) hg).trans (unhide HC).2.2.2.1
          have c4 := ((unhide HI).at_.under.cell (p := ⟨g, q + k * 5 + 4, none⟩) hg).trans (unhide HC).2.2.2.2
          go_wp2_with fail
          refine (unhide HDO).mono ?_
          rintro e w1 ⟨rfl, hd1⟩
          have HD1 := hide hd1
          clear hd1 c0 c1 c2 c3 c4
          have c0 := ((unhide HD1).under.cell (p := ⟨g, q + k * 5, none⟩) hg).trans (unhide HC).1
          have c1 := ((unhide HD1).under.cell (p := ⟨g, q + k * 5 + 1, none⟩) hg).trans (unhide HC).2.1
          have c2 := ((unhide HD1).under.cell (p := ⟨g, q + k * 5 + 2, none⟩) hg).trans (unhide HC).2.2.1
          have c3 := ((unhide HD1).under.cell (p := ⟨g, q + k * 5 + 3, none⟩) hg).trans (unhide HC).2.2.2.1
          have c4 := ((unhide HD1).under.cell (p := ⟨g, q + k * 5 + 4, none⟩) hg).trans (unhide HC).2.2.2.2
          go_wp2_with fail
          refine (unhide HAS _ (unhide HD1)).mono ?_
          rintro e w2 ⟨rfl, hd2⟩
          have HD2 := hide hd2
          clear hd2 c0 c1 c2 c3 c4 HD1
          have c0 := ((unhide HD2).under.cell (p := ⟨g, q + k * 5, none⟩) hg).trans (unhide HC).1
          have c1 := ((unhide HD2).under.cell (p := ⟨g, q + k * 5 + 1, none⟩) hg).trans (unhide HC).2.1
          have c2 := ((unhide HD2).under.cell (p := ⟨g, q + k * 5 + 2, none⟩) hg).trans (unhide HC).2.2.1
          have c3 := ((unhide HD2).under.cell (p := ⟨g, q + k * 5 + 3, none⟩) hg).trans (unhide HC).2.2.2.1
          have c4 := ((unhide HD2).under.cell (p := ⟨g, q + k * 5 + 4, none⟩) hg).trans (unhide HC).2.2.2.2
          go_wp2_with fail
          refine (unhide HGV _ (unhide HD2)).mono ?_
          rintro e w3 ⟨rfl, hd3⟩
          have HD3 := hide hd3
          clear hd3 c0 c1 c2 c3 c4 HD2
          have c0 := ((unhide HD3).under.cell (p := ⟨g, q + k * 5, none⟩) hg).trans (unhide HC).1
          have c1 := ((unhide HD3).under.cell (p := ⟨g, q + k * 5 + 1, none⟩) hg).trans (unhide HC).2.1
          have c2 := ((unhide HD3).under.cell (p := ⟨g, q + k * 5 + 2, none⟩) hg).trans (unhide HC).2.2.1
          have c3 := ((unhide HD3).under.cell (p := ⟨g, q + k * 5 + 3, none⟩) hg).trans (unhide HC).2.2.2.1
          have c4 := ((unhide HD3).under.cell (p := ⟨g, q + k * 5 + 4, none⟩) hg).trans (unhide HC).2.2.2.2
          go_wp2_with fail
          refine (unhide HGR _ (unhide HD3)).mono ?_
          rintro e w4 ⟨rfl, hd4⟩
          have HD4 := hide hd4
          clear hd4 c0 c1 c2 c3 c4 HD3
          obtain ⟨st, hst⟩ : ∃ st, st = s'.st := ⟨_, rfl⟩
          have HST : Hid (∀ m, Calls Tryz.prog 12 #[.pointer (some ⟨b, 0, none⟩)] (w4.drewN m) fun e w' => e = .returned (.int .i64 st) ∧ w' = w4.drewN m) := hide (fun m => by
            obtain ⟨X, Y, hV, _⟩ := (unhide HD4).below (below_drew w4 m)
            rw [hst]
            exact status_any b X s' _ hV)
          have r3 : w4.cell? ⟨br, 3, none⟩ = some (.int .i64 st) := by
            obtain ⟨X, Y, _, hR, _⟩ := unhide HD4
            obtain ⟨lv, av, hb, _⟩ := hR
            rw [hst]
            exact hb.cell 3 rfl
          have q1 : (e' != e') = false := by simp
          have q2 : ((BA T).toList == (BA T).toList) = true := by simp
          have q3 : (B != B) = false := by simp
          have q4 : (st != st) = false := by simp
          clear hst
          go_wp2_with fail
          go_quiet ((go_at_call 12; exact Calls.quiet_of_same (unhide HST _)))
          go_wp2
          go_roundw
          case rel => exact ⟨k + 1, s', rfl, by go_num, by omega, hide ⟨(unhide HD4).below (below_drew w4 _), unhide HS', unhide HSH⟩⟩
          case measure => simp [intOf]; omega
        · have hlt1 : ¬ (k : Int) < (n : Int) := by omega
          have hn60 : n ≤ 60 := by have := len_of (unhide HFB); have := unhide HN; omega
          obtain ⟨X, Y, hV, hR, hD, hX, hY, hB⟩ := (unhide HI).at_
          have hsm := (unhide HI).small
          have hfw := hsm.few
          have hsh := (unhide HI).short
          have hbr := hR.lt
          obtain ⟨lv, av, hrb, hrow, _, hra, _⟩ := id hR
          obtain ⟨la, lc, hlv, _⟩ := id hrow
          obtain ⟨ra, rc, hav, _⟩ := id hra
          obtain ⟨ln, hln⟩ : ∃ x, x = s.L.length := ⟨_, rfl⟩
          obtain ⟨rn, hrn⟩ : ∃ x, x = s.args.length := ⟨_, rfl⟩
          rw [← hln] at hlv
          rw [← hrn] at hav
          subst hlv hav
          have HCL : Hid (∀ w', Below wr.heap.size wr w' → (w'.cell? ⟨br, 0, none⟩ = some (.slice la ln lc) ∧ w'.cell? ⟨br, 2, none⟩ = some (.slice ra rn rc))) := hide (fun w' h1 => ⟨(h1.cell (p := ⟨br, 0, none⟩) hbr).trans (hrb.cell 0 rfl), (h1.cell (p := ⟨br, 2, none⟩) hbr).trans (hrb.cell 2 rfl)⟩)
          have HALL : Hid (∀ W, Below wr.heap.size wr W → Calls Tryz.prog 15 #[.pointer (some ⟨b, 0, none⟩)] W fun e w' => ∃ u, e = .returned u ∧ (w'.cell? ⟨br, 0, none⟩ = some (.slice la ln lc) ∧ w'.cell? ⟨br, 2, none⟩ = some (.slice ra rn rc)) ∧ Hid (Below wr.heap.size wr w' ∧ VRow w' u s.L)) := hide (fun W hW => (all_any b X s W (hV.below hW) (by omega)).mono (fun e w' ⟨u, h1, h2, h3⟩ => by
            have h4 := hW.trans (h3.mono hW.size)
            obtain ⟨k1, k2⟩ := unhide HCL _ h4
            exact ⟨u, h1, ⟨k1, k2⟩, hide ⟨h4, VRow.of h2 rfl⟩⟩))
          have HPLN : Hid (∀ W u, Below wr.heap.size wr W → VRow W u s.L → Calls Tryz.prog 14 #[u] W fun e w' => ∃ u, e = .returned u ∧ (w'.cell? ⟨br, 0, none⟩ = some (.slice la ln lc) ∧ w'.cell? ⟨br, 2, none⟩ = some (.slice ra rn rc)) ∧ Hid (Below wr.heap.size wr w' ∧ VRow w' u s.L)) := hide (fun W u hW hu => (plain_any u s.L W hu (by omega)).mono (fun e w' ⟨u, h1, h3, h2⟩ => by
            have h4 := hW.trans (h3.mono hW.size)
            exact ⟨u, h1, unhide HCL _ h4, hide ⟨h4, VRow.of h2 rfl⟩⟩))
          have HSAM : Hid (∀ W u, Below wr.heap.size wr W → VRow W u s.L → Calls Tryz.prog 13 #[u, .slice la ln lc] W fun e w' => e = .returned (.bool true) ∧ (w'.cell? ⟨br, 0, none⟩ = some (.slice la ln lc) ∧ w'.cell? ⟨br, 2, none⟩ = some (.slice ra rn rc)) ∧ Hid (Below wr.heap.size wr w')) := hide (fun W u hW hu => (same_any u _ s.L W hu (hrow.below hW) (by omega)).mono (fun e w' ⟨h1, h3⟩ => by
            have h4 := hW.trans (h3.mono hW.size)
            exact ⟨h1, unhide HCL _ h4, hide h4⟩))
          have HENV : Hid (∀ W, Below wr.heap.size wr W → Calls Tryz.prog 17 #[.pointer (some ⟨b, 0, none⟩)] W fun e w' => ∃ u, e = .returned u ∧ (w'.cell? ⟨br, 0, none⟩ = some (.slice la ln lc) ∧ w'.cell? ⟨br, 2, none⟩ = some (.slice ra rn rc)) ∧ Hid (Below wr.heap.size wr w' ∧ AIn w' u (envL s.L))) := hide (fun W hW => (env_any b X s W (hV.below hW) (by omega) hsh).mono (fun e w' ⟨u, h1, h2, _, h3⟩ => by
            have h4 := hW.trans (h3.mono hW.size)
            exact ⟨u, h1, unhide HCL _ h4, hide ⟨h4, h2.read⟩⟩))
          have HREN : Hid (∀ W u, Below wr.heap.size wr W → AIn W u (envL s.L) → Calls Tryz.prog 18 #[.pointer (some ⟨br, 0, none⟩)] W fun e w' => ∃ u2, e = .returned u2 ∧ (w'.cell? ⟨br, 0, none⟩ = some (.slice la ln lc) ∧ w'.cell? ⟨br, 2, none⟩ = some (.slice ra rn rc)) ∧ Hid (Below wr.heap.size wr w' ∧ AIn w' u (envL s.L) ∧ AIn w' u2 (envL s.L))) := hide (fun W u hW hu => (renv_any w W br Y s (hR.below hW) (by omega) hsh).mono (fun e w' ⟨u2, h1, h2, _, h3⟩ => by
            have h4 := hW.trans (h3.mono hW.size)
            exact ⟨u2, h1, unhide HCL _ h4, hide ⟨h4, hu.below h3, h2.read⟩⟩))
          have HTXT : Hid (∀ W u u2, Below wr.heap.size wr W → AIn W u (envL s.L) → AIn W u2 (envL s.L) → Calls Tryz.prog 16 #[u, u2] W fun e w' => e = .returned (.bool true) ∧ (w'.cell? ⟨br, 0, none⟩ = some (.slice la ln lc) ∧ w'.cell? ⟨br, 2, none⟩ = some (.slice ra rn rc)) ∧ Hid (Below wr.heap.size wr w')) := hide (fun W u u2 hW h1 h2 => (textsEq_any u u2 _ W h1 h2 (by have := envL_len s.L; omega)).mono (fun e w' ⟨h1, h3⟩ => by
            have h4 := hW.trans (h3.mono hW.size)
            exact ⟨h1, unhide HCL _ h4, hide h4⟩))
          have HARG : Hid (∀ W, Below wr.heap.size wr W → Calls Tryz.prog 19 #[.pointer (some ⟨b, 0, none⟩)] W fun e w' => ∃ u, e = .returned u ∧ (w'.cell? ⟨br, 0, none⟩ = some (.slice la ln lc) ∧ w'.cell? ⟨br, 2, none⟩ = some (.slice ra rn rc)) ∧ Hid (Below wr.heap.size wr w' ∧ AIn w' u s.args)) := hide (fun W hW => (args_any b X s W (hV.below hW) (by have := hsm.args; omega)).mono (fun e w' ⟨u, h1, h2, _, h3⟩ => by
            have h4 := hW.trans (h3.mono hW.size)
            exact ⟨u, h1, unhide HCL _ h4, hide ⟨h4, h2.read⟩⟩))
          have HTX2 : Hid (∀ W u, Below wr.heap.size wr W → AIn W u s.args → Calls Tryz.prog 16 #[u, .slice ra rn rc] W fun e w' => e = .returned (.bool true) ∧ (w'.cell? ⟨br, 0, none⟩ = some (.slice la ln lc) ∧ w'.cell? ⟨br, 2, none⟩ = some (.slice ra rn rc)) ∧ Hid (Below wr.heap.size wr w')) := hide (fun W u hW h1 => (textsEq_any u _ _ W h1 ((hra.below hB).below hW) (by have := hsm.args; omega)).mono (fun e w' ⟨h1, h3⟩ => by
            have h4 := hW.trans (h3.mono hW.size)
            exact ⟨h1, unhide HCL _ h4, hide h4⟩))
          have HAWK : Hid (∀ W, Below wr.heap.size wr W → Calls Tryz.prog 6 #[] W fun e w' => e = .returned (.bool true) ∧ (w'.cell? ⟨br, 0, none⟩ = some (.slice la ln lc) ∧ w'.cell? ⟨br, 2, none⟩ = some (.slice ra rn rc)) ∧ Hid (Below wr.heap.size wr w')) := hide (fun W hW => (awake_any W).mono (fun e w' ⟨h1, h3⟩ => by
            have h4 := hW.trans (h3.mono hW.size)
            exact ⟨h1, unhide HCL _ h4, hide h4⟩))
          have HBW := hide hB
          have HD0 := hide (below_drew wr 1)
          obtain ⟨c0, c2⟩ := unhide HCL _ (Below.refl _ wr)
          clear hV hR hD hX hY hB hsm hfw hsh hbr hrb hrow hra hln hrn HAW
          have KK0 := unhide HCL _ (Below.refl _ wr)
          clear c0 c2
          go_wp2_with fail
          refine wp_region_held_drew (S := fun w' => w'.cell? ⟨br, 0, none⟩ = some (.slice la ln lc) ∧ w'.cell? ⟨br, 2, none⟩ = some (.slice ra rn rc)) (by kernel_rfl) (by exact KK0) (fun hHeld => ?_)
          refine wpAnyH_take (i := 0) (oi := { dst := some 88, op := Op.move (Operand.tmp 5), type := 27, pos := "law.go:129", after := #[], guard := none }) (v := ?_) rfl (by kernel_rfl) (by kernel_rfl) (by kernel_rfl) (fun _ _ _ h => h) (Or.inl ⟨by rfl, ?_⟩) (by assumption) ?_
          rotate_left
          · intro w hSw; obtain ⟨s0, s1⟩ := hSw; go_simp; (try with_reducible rfl)
          simp only [Act.put, List.setIfInBounds_toArray, List.set_cons_zero, List.set_cons_succ]
          refine wpAnyH_take (i := 3) (oi := { dst := some 91, op := Op.move (Operand.tmp 6), type := 29, pos := "law.go:129", after := #[], guard := none }) (v := ?_) rfl (by kernel_rfl) (by kernel_rfl) (by kernel_rfl) (fun _ _ _ h => h) (Or.inl ⟨by rfl, ?_⟩) (by assumption) ?_
          rotate_left
          · intro w hSw; obtain ⟨s0, s1⟩ := hSw; go_simp; (try with_reducible rfl)
          simp only [Act.put, List.setIfInBounds_toArray, List.set_cons_zero, List.set_cons_succ]
          refine wpAnyH_take (i := 4) (oi := { dst := some 92, op := Op.nilCheck (Operand.tmp 91), type := 0, pos := "law.go:129", after := #[{ on := 3, ground := Ground.data }], guard := none }) (v := ?_) rfl (by kernel_rfl) (by kernel_rfl) (by kernel_rfl) (fun _ _ _ h => h) (Or.inl ⟨by rfl, ?_⟩) (by assumption) ?_
          rotate_left
          · intro w hSw; obtain ⟨s0, s1⟩ := hSw; go_simp; (try with_reducible rfl)
          simp only [Act.put, List.setIfInBounds_toArray, List.set_cons_zero, List.set_cons_succ]
          refine wpAnyH_take (i := 5) (oi := { dst := some 93, op := Op.fieldAddr 32 (Operand.tmp 92) 0, type := 0, pos := "law.go:129", after := #[{ on := 4, ground := Ground.data }], guard := none }) (v := ?_) rfl (by kernel_rfl) (by kernel_rfl) (by kernel_rfl) (fun _ _ _ h => h) (Or.inl ⟨by rfl, ?_⟩) (by assumption) ?_
          rotate_left
          · intro w hSw; obtain ⟨s0, s1⟩ := hSw; go_simp; (try with_reducible rfl)
          simp only [Act.put, List.setIfInBounds_toArray, List.set_cons_zero, List.set_cons_succ]
          refine wpAnyH_take (i := 6) (oi := { dst := some 94, op := Op.load 30 (Operand.tmp 93), type := 30, pos := "law.go:129", after := #[{ on := 5, ground := Ground.data }], guard := none }) (v := ?_) rfl (by kernel_rfl) (by kernel_rfl) (by kernel_rfl) (fun _ _ _ h => h) (Or.inl ⟨by rfl, ?_⟩) (by assumption) ?_
          rotate_left
          · intro w hSw; obtain ⟨s0, s1⟩ := hSw; go_simp; (try with_reducible rfl)
          simp only [Act.put, List.setIfInBounds_toArray, List.set_cons_zero, List.set_cons_succ]
          refine wpAnyH_ready (rs := [1]) (by kernel_rfl) (by simp) ?_
          refine AllReadyH.cons (o := { dst := some 89, op := Op.call { callee := Callee.value (Operand.func 15), args := #[Operand.tmp 88], argTypes := #[27] }, type := 43, pos := "law.go:129", after := #[{ on := 0, ground := Ground.data }], guard := none }) rfl (fun KK hKK => ?_) AllReadyH.nil
          go_simp
          refine (unhide HALL _ (unhide HD0)).mono ?_
          rintro e w1 ⟨u1, rfl, KK1, H1⟩
          refine hKK.out _ _ (by exact KK1) (fun hHeld => ?_)
          clear hKK KK
          try simp only [Act.put, List.setIfInBounds_toArray, List.set_cons_zero, List.set_cons_succ]
          refine wpAnyH_ready (rs := [2]) (by kernel_rfl) (by simp) ?_
          refine AllReadyH.cons (o := { dst := some 90, op := Op.call { callee := Callee.value (Operand.func 14), args := #[Operand.tmp 89], argTypes := #[43] }, type := 30, pos := "law.go:129", after := #[{ on := 1, ground := Ground.data }, { on := 1, ground := Ground.chain }], guard := none }) rfl (fun KK hKK => ?_) AllReadyH.nil
          go_simp
          refine (unhide HPLN _ _ (unhide H1).1 (unhide H1).2).mono ?_
          rintro e w2 ⟨u2, rfl, KK2, H2⟩
          refine hKK.out _ _ (by exact KK2) (fun hHeld => ?_)
          clear hKK KK
          try simp only [Act.put, List.setIfInBounds_toArray, List.set_cons_zero, List.set_cons_succ]
          refine wpAnyH_ready (rs := [7]) (by kernel_rfl) (by simp) ?_
          refine AllReadyH.cons (o := { dst := some 95, op := Op.call { callee := Callee.value (Operand.func 13), args := #[Operand.tmp 90, Operand.tmp 94], argTypes := #[30, 30] }, type := 4, pos := "law.go:129", after := #[{ on := 2, ground := Ground.data }, { on := 6, ground := Ground.data }, { on := 2, ground := Ground.chain }], guard := none }) rfl (fun KK hKK => ?_) AllReadyH.nil
          go_simp
          refine (unhide HSAM _ _ (unhide H2).1 (unhide H2).2).mono ?_
          rintro e w3 ⟨rfl, KK3, H3⟩
          refine hKK.out _ _ (by exact KK3) (fun hHeld => ?_)
          clear hKK KK
          try simp only [Act.put, List.setIfInBounds_toArray, List.set_cons_zero, List.set_cons_succ]
          refine wpAnyH_take (i := 8) (oi := { dst := some 96, op := Op.move (Operand.tmp 95), type := 4, pos := "law.go:129", after := #[{ on := 7, ground := Ground.data }, { on := 7, ground := Ground.chain }], guard := none }) (v := ?_) rfl (by kernel_rfl) (by kernel_rfl) (by kernel_rfl) (fun _ _ _ h => h) (Or.inl ⟨by rfl, ?_⟩) (by assumption) ?_
          rotate_left
          · intro w hSw; obtain ⟨s0, s1⟩ := hSw; go_simp; (try with_reducible rfl)
          simp only [Act.put, List.setIfInBounds_toArray, List.set_cons_zero, List.set_cons_succ]
          refine wpAnyH_take (i := 9) (oi := { dst := some 97, op := Op.move (Operand.tmp 5), type := 27, pos := "law.go:129", after := #[{ on := 8, ground := Ground.guard }], guard := some (8, true) }) (v := ?_) rfl (by kernel_rfl) (by kernel_rfl) (by kernel_rfl) (fun _ _ _ h => h) (Or.inl ⟨by rfl, ?_⟩) (by assumption) ?_
          rotate_left
          · intro w hSw; obtain ⟨s0, s1⟩ := hSw; go_simp; (try with_reducible rfl)
          simp only [Act.put, List.setIfInBounds_toArray, List.set_cons_zero, List.set_cons_succ]
          refine wpAnyH_take (i := 11) (oi := { dst := some 99, op := Op.move (Operand.tmp 6), type := 29, pos := "law.go:129", after := #[{ on := 8, ground := Ground.guard }], guard := some (8, true) }) (v := ?_) rfl (by kernel_rfl) (by kernel_rfl) (by kernel_rfl) (fun _ _ _ h => h) (Or.inl ⟨by rfl, ?_⟩) (by assumption) ?_
          rotate_left
          · intro w hSw; obtain ⟨s0, s1⟩ := hSw; go_simp; (try with_reducible rfl)
          simp only [Act.put, List.setIfInBounds_toArray, List.set_cons_zero, List.set_cons_succ]
          refine wpAnyH_ready (rs := [10]) (by kernel_rfl) (by simp) ?_
          refine AllReadyH.cons (o := { dst := some 98, op := Op.call { callee := Callee.value (Operand.func 17), args := #[Operand.tmp 97], argTypes := #[27] }, type := 22, pos := "law.go:129", after := #[{ on := 9, ground := Ground.data }, { on := 8, ground := Ground.chain }, { on := 8, ground := Ground.guard }], guard := some (8, true) }) rfl (fun KK hKK => ?_) AllReadyH.nil
          go_simp
          refine (unhide HENV _ (unhide H3)).mono ?_
          rintro e w4 ⟨u4, rfl, KK4, H4⟩
          refine hKK.out _ _ (by exact KK4) (fun hHeld => ?_)
          clear hKK KK
          try simp only [Act.put, List.setIfInBounds_toArray, List.set_cons_zero, List.set_cons_succ]
          refine wpAnyH_ready (rs := [12]) (by kernel_rfl) (by simp) ?_
          refine AllReadyH.cons (o := { dst := some 100, op := Op.call { callee := Callee.value (Operand.func 18), args := #[Operand.tmp 99], argTypes := #[29] }, type := 22, pos := "law.go:129", after := #[{ on := 11, ground := Ground.data }, { on := 10, ground := Ground.chain }, { on := 8, ground := Ground.guard }], guard := some (8, true) }) rfl (fun KK hKK => ?_) AllReadyH.nil
          go_simp
          refine (unhide HREN _ _ (unhide H4).1 (unhide H4).2).mono ?_
          rintro e w5 ⟨u5, rfl, KK5, H5⟩
          refine hKK.out _ _ (by exact KK5) (fun hHeld => ?_)
          clear hKK KK
          try simp only [Act.put, List.setIfInBounds_toArray, List.set_cons_zero, List.set_cons_succ]
          refine wpAnyH_ready (rs := [13]) (by kernel_rfl) (by simp) ?_
          refine AllReadyH.cons (o := { dst := some 101, op := Op.call { callee := Callee.value (Operand.func 16), args := #[Operand.tmp 98, Operand.tmp 100], argTypes := #[22, 22] }, type := 4, pos := "law.go:129", after := #[{ on := 10, ground := Ground.data }, { on := 12, ground := Ground.data }, { on := 12, ground := Ground.chain }, { on := 8, ground := Ground.guard }], guard := some (8, true) }) rfl (fun KK hKK => ?_) AllReadyH.nil
          go_simp
          refine (unhide HTXT _ _ _ (unhide H5).1 (unhide H5).2.1 (unhide H5).2.2).mono ?_
          rintro e w6 ⟨rfl, KK6, H6⟩
          refine hKK.out _ _ (by exact KK6) (fun hHeld => ?_)
          clear hKK KK
          try simp only [Act.put, List.setIfInBounds_toArray, List.set_cons_zero, List.set_cons_succ]
          refine wpAnyH_take (i := 14) (oi := { dst := some 102, op := Op.pick (Operand.tmp 96) (Operand.tmp 101) (Operand.const (Value.bool false)), type := 4, pos := "law.go:129", after := #[{ on := 8, ground := Ground.data }, { on := 13, ground := Ground.data }], guard := none }) (v := ?_) rfl (by kernel_rfl) (by kernel_rfl) (by kernel_rfl) (fun _ _ _ h => h) (Or.inl ⟨by rfl, ?_⟩) (by assumption) ?_
          rotate_left
          · intro w hSw; obtain ⟨s0, s1⟩ := hSw; go_simp; (try with_reducible rfl)
          simp only [Act.put, List.setIfInBounds_toArray, List.set_cons_zero, List.set_cons_succ]
          refine wpAnyH_take (i := 15) (oi := { dst := some 103, op := Op.move (Operand.tmp 102), type := 4, pos := "law.go:129", after := #[{ on := 14, ground := Ground.data }, { on := 13, ground := Ground.chain }], guard := none }) (v := ?_) rfl (by kernel_rfl) (by kernel_rfl) (by kernel_rfl) (fun _ _ _ h => h) (Or.inl ⟨by rfl, ?_⟩) (by assumption) ?_
          rotate_left
          · intro w hSw; obtain ⟨s0, s1⟩ := hSw; go_simp; (try with_reducible rfl)
          simp only [Act.put, List.setIfInBounds_toArray, List.set_cons_zero, List.set_cons_succ]
          refine wpAnyH_take (i := 16) (oi := { dst := some 104, op := Op.move (Operand.tmp 5), type := 27, pos := "law.go:129", after := #[{ on := 15, ground := Ground.guard }], guard := some (15, true) }) (v := ?_) rfl (by kernel_rfl) (by kernel_rfl) (by kernel_rfl) (fun _ _ _ h => h) (Or.inl ⟨by rfl, ?_⟩) (by assumption) ?_
          rotate_left
          · intro w hSw; obtain ⟨s0, s1⟩ := hSw; go_simp; (try with_reducible rfl)
          simp only [Act.put, List.setIfInBounds_toArray, List.set_cons_zero, List.set_cons_succ]
          refine wpAnyH_take (i := 18) (oi := { dst := some 106, op := Op.move (Operand.tmp 6), type := 29, pos := "law.go:129", after := #[{ on := 15, ground := Ground.guard }], guard := some (15, true) }) (v := ?_) rfl (by kernel_rfl) (by kernel_rfl) (by kernel_rfl) (fun _ _ _ h => h) (Or.inl ⟨by rfl, ?_⟩) (by assumption) ?_
          rotate_left
          · intro w hSw; obtain ⟨s0, s1⟩ := hSw; go_simp; (try with_reducible rfl)
          simp only [Act.put, List.setIfInBounds_toArray, List.set_cons_zero, List.set_cons_succ]
          refine wpAnyH_take (i := 19) (oi := { dst := some 107, op := Op.nilCheck (Operand.tmp 106), type := 0, pos := "law.go:129", after := #[{ on := 18, ground := Ground.data }, { on := 15, ground := Ground.guard }], guard := some (15, true) }) (v := ?_) rfl (by kernel_rfl) (by kernel_rfl) (by kernel_rfl) (fun _ _ _ h => h) (Or.inl ⟨by rfl, ?_⟩) (by assumption) ?_
          rotate_left
          · intro w hSw; obtain ⟨s0, s1⟩ := hSw; go_simp; (try with_reducible rfl)
          simp only [Act.put, List.setIfInBounds_toArray, List.set_cons_zero, List.set_cons_succ]
          refine wpAnyH_take (i := 20) (oi := { dst := some 108, op := Op.fieldAddr 32 (Operand.tmp 107) 2, type := 0, pos := "law.go:129", after := #[{ on := 19, ground := Ground.data }, { on := 15, ground := Ground.guard }], guard := some (15, true) }) (v := ?_) rfl (by kernel_rfl) (by kernel_rfl) (by kernel_rfl) (fun _ _ _ h => h) (Or.inl ⟨by rfl, ?_⟩) (by assumption) ?_
          rotate_left
          · intro w hSw; obtain ⟨s0, s1⟩ := hSw; go_simp; (try with_reducible rfl)
          simp only [Act.put, List.setIfInBounds_toArray, List.set_cons_zero, List.set_cons_succ]
          refine wpAnyH_take (i := 21) (oi := { dst := some 109, op := Op.load 22 (Operand.tmp 108), type := 22, pos := "law.go:129", after := #[{ on := 20, ground := Ground.data }, { on := 15, ground := Ground.guard }], guard := some (15, true) }) (v := ?_) rfl (by kernel_rfl) (by kernel_rfl) (by kernel_rfl) (fun _ _ _ h => h) (Or.inl ⟨by rfl, ?_⟩) (by assumption) ?_
          rotate_left
          · intro w hSw; obtain ⟨s0, s1⟩ := hSw; go_simp; (try with_reducible rfl)
          simp only [Act.put, List.setIfInBounds_toArray, List.set_cons_zero, List.set_cons_succ]
          refine wpAnyH_ready (rs := [17]) (by kernel_rfl) (by simp) ?_
          refine AllReadyH.cons (o := { dst := some 105, op := Op.call { callee := Callee.value (Operand.func 19), args := #[Operand.tmp 104], argTypes := #[27] }, type := 22, pos := "law.go:129", after := #[{ on := 16, ground := Ground.data }, { on := 15, ground := Ground.chain }, { on := 15, ground := Ground.guard }], guard := some (15, true) }) rfl (fun KK hKK => ?_) AllReadyH.nil
          go_simp
          refine (unhide HARG _ (unhide H6)).mono ?_
          rintro e w7 ⟨u7, rfl, KK7, H7⟩
          refine hKK.out _ _ (by exact KK7) (fun hHeld => ?_)
          clear hKK KK
          try simp only [Act.put, List.setIfInBounds_toArray, List.set_cons_zero, List.set_cons_succ]
          refine wpAnyH_ready (rs := [22]) (by kernel_rfl) (by simp) ?_
          refine AllReadyH.cons (o := { dst := some 110, op := Op.call { callee := Callee.value (Operand.func 16), args := #[Operand.tmp 105, Operand.tmp 109], argTypes := #[22, 22] }, type := 4, pos := "law.go:129", after := #[{ on := 17, ground := Ground.data }, { on := 21, ground := Ground.data }, { on := 17, ground := Ground.chain }, { on := 15, ground := Ground.guard }], guard := some (15, true) }) rfl (fun KK hKK => ?_) AllReadyH.nil
          go_simp
          refine (unhide HTX2 _ _ (unhide H7).1 (unhide H7).2).mono ?_
          rintro e w8 ⟨rfl, KK8, H8⟩
          refine hKK.out _ _ (by exact KK8) (fun hHeld => ?_)
          clear hKK KK
          try simp only [Act.put, List.setIfInBounds_toArray, List.set_cons_zero, List.set_cons_succ]
          refine wpAnyH_take (i := 23) (oi := { dst := some 111, op := Op.pick (Operand.tmp 103) (Operand.tmp 110) (Operand.const (Value.bool false)), type := 4, pos := "law.go:129", after := #[{ on := 15, ground := Ground.data }, { on := 22, ground := Ground.data }], guard := none }) (v := ?_) rfl (by kernel_rfl) (by kernel_rfl) (by kernel_rfl) (fun _ _ _ h => h) (Or.inl ⟨by rfl, ?_⟩) (by assumption) ?_
          rotate_left
          · intro w hSw; obtain ⟨s0, s1⟩ := hSw; go_simp; (try with_reducible rfl)
          simp only [Act.put, List.setIfInBounds_toArray, List.set_cons_zero, List.set_cons_succ]
          refine wpAnyH_take (i := 24) (oi := { dst := some 112, op := Op.move (Operand.tmp 111), type := 4, pos := "law.go:129", after := #[{ on := 23, ground := Ground.data }, { on := 22, ground := Ground.chain }], guard := none }) (v := ?_) rfl (by kernel_rfl) (by kernel_rfl) (by kernel_rfl) (fun _ _ _ h => h) (Or.inl ⟨by rfl, ?_⟩) (by assumption) ?_
          rotate_left
          · intro w hSw; obtain ⟨s0, s1⟩ := hSw; go_simp; (try with_reducible rfl)
          simp only [Act.put, List.setIfInBounds_toArray, List.set_cons_zero, List.set_cons_succ]
          refine wpAnyH_ready (rs := [25]) (by kernel_rfl) (by simp) ?_
          refine AllReadyH.cons (o := { dst := some 113, op := Op.call { callee := Callee.value (Operand.func 6), args := #[], argTypes := #[] }, type := 4, pos := "law.go:129", after := #[{ on := 24, ground := Ground.chain }, { on := 24, ground := Ground.guard }], guard := some (24, true) }) rfl (fun KK hKK => ?_) AllReadyH.nil
          go_simp
          refine (unhide HAWK _ (unhide H8)).mono ?_
          rintro e w9 ⟨rfl, KK9, H9⟩
          refine hKK.out _ _ (by exact KK9) (fun hHeld => ?_)
          clear hKK KK
          try simp only [Act.put, List.setIfInBounds_toArray, List.set_cons_zero, List.set_cons_succ]
          refine wpAnyH_take (i := 26) (oi := { dst := some 114, op := Op.pick (Operand.tmp 112) (Operand.tmp 113) (Operand.const (Value.bool false)), type := 4, pos := "law.go:129", after := #[{ on := 24, ground := Ground.data }, { on := 25, ground := Ground.data }], guard := none }) (v := ?_) rfl (by kernel_rfl) (by kernel_rfl) (by kernel_rfl) (fun _ _ _ h => h) (Or.inl ⟨by rfl, ?_⟩) (by assumption) ?_
          rotate_left
          · intro w hSw; obtain ⟨s0, s1⟩ := hSw; go_simp; (try with_reducible rfl)
          simp only [Act.put, List.setIfInBounds_toArray, List.set_cons_zero, List.set_cons_succ]
          refine wpAnyH_take (i := 27) (oi := { dst := some 4, op := Op.assign (Operand.tmp 114), type := 4, pos := "law.go:129", after := #[{ on := 26, ground := Ground.data }, { on := 25, ground := Ground.chain }, { on := 0, ground := Ground.phase }, { on := 1, ground := Ground.phase }, { on := 2, ground := Ground.phase }, { on := 3, ground := Ground.phase }, { on := 4, ground := Ground.phase }, { on := 5, ground := Ground.phase }, { on := 6, ground := Ground.phase }, { on := 7, ground := Ground.phase }, { on := 8, ground := Ground.phase }, { on := 9, ground := Ground.phase }, { on := 10, ground := Ground.phase }, { on := 11, ground := Ground.phase }, { on := 12, ground := Ground.phase }, { on := 13, ground := Ground.phase }, { on := 14, ground := Ground.phase }, { on := 15, ground := Ground.phase }, { on := 16, ground := Ground.phase }, { on := 17, ground := Ground.phase }, { on := 18, ground := Ground.phase }, { on := 19, ground := Ground.phase }, { on := 20, ground := Ground.phase }, { on := 21, ground := Ground.phase }, { on := 22, ground := Ground.phase }, { on := 23, ground := Ground.phase }, { on := 24, ground := Ground.phase }, { on := 25, ground := Ground.phase }, { on := 26, ground := Ground.phase }], guard := none }) (v := ?_) rfl (by kernel_rfl) (by kernel_rfl) (by kernel_rfl) (fun _ _ _ h => h) (Or.inl ⟨by rfl, ?_⟩) (by assumption) ?_
          rotate_left
          · intro w hSw; obtain ⟨s0, s1⟩ := hSw; go_simp; (try with_reducible rfl)
          simp only [Act.put, List.setIfInBounds_toArray, List.set_cons_zero, List.set_cons_succ]
          clear hHeld
          refine wpAnyH_done (by kernel_rfl) ?_ _
          go_wp2
          go_ret
          exact ⟨rfl, (unhide HBW).trans ((unhide H9).mono (unhide HBW).size)⟩

end Go.Proofs.YtbcbnoeplapblaaGreatDoor

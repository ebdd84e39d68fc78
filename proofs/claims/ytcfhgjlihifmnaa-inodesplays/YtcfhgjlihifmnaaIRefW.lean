/-
  The document's table: Write's walk.
-/
import Derived.Test.YtcfhgjlihifmnaaIRef9
import Derived.Deep.RegionHeld3
import Derived.Deep.DeepCutAuto
import Derived.Deep.CutRange
namespace Go.Proofs.Ytcfhgjlihifmnaa
open Go.RowKit Go.Maps

/-- What the document's Write leaves. -/
def RWrL (w w' : World) (q nb : Nat) (Y : Nat → Prop) (T : TB) (i a : Int) (d : List UInt8) (N E : Int) : Prop := ∃ T', WrSp T (nb - usedT T) i a d N E T' ∧ RAt w' q Y T' nb ∧ GrownS w w' Y
set_option maxRecDepth 20000 in
set_option maxHeartbeats 4000000 in
theorem rwrite_any {w : World} {q nb : Nat} {Y : Nat → Prop} {T : TB} (H : RAt w q Y T nb) (hgd : ∀ (k : Nat) (x : Nd), T[k]? = some (some x) → x.Good) (hub : usedT T ≤ nb) (hnb : nb ≤ 4096) (i a : Int) (d : List UInt8) (hb : -9223372036854775808 ≤ i ∧ i ≤ 9223372036854775807) (ha : a ≤ 9223372036854775807) (hd : d.length ≤ 5000) :
    Calls Try.prog 41 #[.pointer (some ⟨q, 0, none⟩), .int .i64 i, .int .i64 a, .string (BA d)] w fun e w' => ∃ N E : Int, e = .returned (.tuple #[.int .i64 N, .int .i64 E]) ∧ Hid (RWrL w w' q nb Y T i a d N E) := by
  have HH : Hid (RAt w q Y T nb ∧ GrownS w w Y) := hide ⟨H, grownS_of_below (Below.refl _ _)⟩
  have HRA := hide H
  obtain ⟨K, HL, hin⟩ := H
  have HI := hide (ris_any HL (fun k x hx => (hgd k x hx).kind1) i hb)
  cases hx : ndAt T i with
  | none =>
    rw [hx] at HI
    have HE : Hid (RWrL w w q nb Y T i a d 0 23) := hide ⟨T, .none hx, unhide HH⟩
    clear HL hx hin HH HRA hgd
    go_enter Try.func41, Try.ntmps41
    go_wp2_with fail
    refine (unhide HI).mono ?_
    rintro e w1 ⟨rfl, hw1⟩
    rw [show w1 = w from hw1]
    clear hw1
    go_wp2
    go_ret2
    exact ⟨_, _, rfl, HE⟩
  | some x =>
    rw [hx] at HI
    obtain ⟨k, rfl, hk, hkn⟩ := ndAt_some hx
    by_cases h1 : a < 0
    · have HE : Hid (RWrL w w q nb Y T ((k : Int) + 1) a d 0 1) := hide ⟨T, .arg x hx h1, unhide HH⟩
      clear HL hx hin HH HRA hgd hk hkn
      go_enter Try.func41, Try.ntmps41
      go_wp2_with fail
      refine (unhide HI).mono ?_
      rintro e w1 ⟨rfl, hw1⟩
      rw [show w1 = w from hw1]
      clear hw1
      go_wp2
      go_ret2
      exact ⟨_, _, rfl, HE⟩
    · obtain ⟨a', rfl⟩ : ∃ a' : Nat, a = a' := ⟨a.toNat, by omega⟩
      have hgx := hgd k x hk
      have hsz := hgx.size
      have q1 := HL.tab.cell 1 rfl
      change _ = some (Value.int .i64 (nb : Int)) at q1
      have hmx := HL.max
      have HUS : Hid (∀ W, Below w.heap.size w W → Calls Try.prog 45 #[.pointer (some ⟨q, 0, none⟩)] W fun e w' => e = .returned (.int .i64 (usedT T : Int)) ∧ w'.cell? ⟨q, 1, none⟩ = some (.int .i64 (nb : Int)) ∧ Hid (Below w.heap.size w w')) := hide (fun W hb => by
        have HW := HL.grownS (S := fun _ => False) (grownS_of_below hb) (HL.lt.mono (fun _ _ e => e))
        refine (rused_any HW).mono ?_
        rintro e w' ⟨h1, h2⟩
        rw [show w' = W from h2]
        exact ⟨h1, HW.tab.cell 1 rfl, hide hb⟩)
      obtain ⟨n, hn⟩ : ∃ n, n = d.length := ⟨_, rfl⟩
      obtain ⟨F, hF⟩ : ∃ F, F = nb - usedT T := ⟨_, rfl⟩
      obtain ⟨WX, hWX⟩ : ∃ P : World → Nat → Nat → Prop, P = fun wr m fr => WS w wr q nb Y T k x a' m fr := ⟨_, rfl⟩
      have HW0 : Hid (∀ wa, Below w.heap.size w wa → WX wa 0 F) := hide (fun wa hb => by
        rw [hWX, hF]
        exact WS.start hk a' ((unhide HRA).below hb) (grownS_of_below hb))
      obtain ⟨bt, hbt⟩ : ∃ bt : Nat → Bool, bt = fun m => hasP x.has a' m ((a' + m) / 64) := ⟨_, rfl⟩
      have HLO : Hid (∀ wr m fr, WX wr m fr → a' + m < 4096 → ∃ r2 c2 h2 hc2, wr.cell? ⟨q, 0, none⟩ = some (.slice (some ⟨r2, 0, none⟩) (T.length + 1) c2) ∧ wr.cell? ⟨r2, (k + 1) * 5 + 4, none⟩ = some (.slice (some ⟨h2, 0, none⟩) 64 hc2) ∧ wr.cell? ⟨h2, (a' + m) / 64, none⟩ = some (.bool (bt m)) ∧ wr.frozen? ⟨h2, (a' + m) / 64, none⟩ = false ∧ Hid ((bt m = true → WX wr (m + 1) fr) ∧ (bt m = false → 0 < fr → WX (wr.setCell ⟨h2, (a' + m) / 64, none⟩ (.bool true)) (m + 1) (fr - 1)))) := hide (fun wr m fr h hlt => by
        rw [hWX] at h ⊢
        rw [hbt]
        obtain ⟨r2, c2, h2, hc2, z1, z2, z3, z4, z5, z6⟩ := h.look hk hlt
        exact ⟨r2, c2, h2, hc2, z1, z2, z3, z4, hide ⟨z5, z6⟩⟩)
      -- what the loop ends with
      obtain ⟨EX, hEX⟩ : ∃ P : Int → Nat → Nat → Prop, P = fun E m fr => E = 0 ∨ (E = 3 ∧ m < n ∧ 4096 ≤ a' + m) ∨ (E = 20 ∧ m < n ∧ a' + m < 4096 ∧ bt m = false ∧ fr = 0) := ⟨_, rfl⟩
      have HE0 : Hid (∀ m fr, EX 0 m fr) := hide (fun m fr => by rw [hEX]; exact .inl rfl)
      have HE3 : Hid (∀ m fr, m < n → 4096 ≤ a' + m → EX 3 m fr) := hide (fun m fr h1 h2 => by rw [hEX]; exact .inr (.inl ⟨rfl, h1, h2⟩))
      have HE20 : Hid (∀ m, m < n → a' + m < 4096 → bt m = false → EX 20 m 0) := hide (fun m h1 h2 h3 => by rw [hEX]; exact .inr (.inr ⟨rfl, h1, h2, h3, rfl⟩))
      have HEN : Hid (∀ wr m fr E, WX wr m fr → EX E m fr → m ≤ n → (m = 0 ∨ a' + m ≤ 4096) → (m = n ∨ E ≠ 0) → (m = 0 → RWrL w wr q nb Y T ((k : Int) + 1) a' d 0 E) ∧ (0 < m → a' < 4096 ∧ a' + m ≤ 4096 ∧ WrSp T (nb - usedT T) ((k : Int) + 1) a' d m 0 (T.set k (some (putN x a' d m))))) := hide (fun wr m fr E h hE hmn hm4 hend => by
        rw [hWX] at h
        rw [hEX] at hE
        have hcn := h.cn
        have hd0 : m < n → d ≠ [] := fun h2 e => by rw [e] at hn; simp at hn; omega
        constructor
        · intro h0
          subst h0
          have hr : RAt wr q Y T nb := by
            have e : hasM x a' 0 = x := by unfold hasM; rw [hasP_zero]
            have h5 := h.at'
            rw [e, set_self hk] at h5
            exact h5
          rcases hE with e | ⟨e, h2, h3⟩ | ⟨e, h2, h3, h4, h5⟩
          · subst e
            have hdn : d = [] := by
              rcases hend with h6 | h6
              · exact List.eq_nil_of_length_eq_zero (by omega)
              · exact absurd rfl h6
            exact ⟨T, .empty x hx (by omega) hdn, hr, h.gr⟩
          · subst e
            exact ⟨T, .big x hx (by omega) (hd0 h2), hr, h.gr⟩
          · subst e
            refine ⟨T, .space x a' hx rfl (by omega) (hd0 h2) ?_, hr, h.gr⟩
            rw [← hn]
            rw [hbt] at h4
            exact put_stop hcn h2 h3 h4 h5
        · intro h0
          have h4' : a' + m ≤ 4096 := by omega
          have hdn : d ≠ [] := fun e => by rw [e] at hn; simp at hn; omega
          refine ⟨by omega, h4', ?_⟩
          have := WrSp.done (T := T) (free := nb - usedT T) (i := (k : Int) + 1) (a := (a' : Int)) (d := d) x a' m hx rfl (by omega) hdn h0 (by
            rw [← hn]
            rcases hE with e | ⟨e, h2, h3⟩ | ⟨e, h2, h3, h4, h5⟩
            · exact put_full hcn hmn h4' (by rcases hend with h6 | h6; exact .inl h6; exact absurd e h6)
            · exact put_full hcn hmn h4' (.inr h3)
            · rw [hbt] at h4
              exact put_stop hcn h2 h3 h4 h5)
          rw [plc_of] at this
          exact this)
      have HFN : Hid (∀ wr m fr, WX wr m fr → ∃ r2 c2, wr.cell? ⟨q, 0, none⟩ = some (.slice (some ⟨r2, 0, none⟩) (T.length + 1) c2) ∧ r2 < wr.heap.size ∧ (∀ W, Below wr.heap.size wr W → W.cell? ⟨q, 0, none⟩ = some (.slice (some ⟨r2, 0, none⟩) (T.length + 1) c2) ∧ W.cell? ⟨r2, (k + 1) * 5 + 3, none⟩ = some (.string (BA (datOf x))) ∧ W.frozen? ⟨r2, (k + 1) * 5 + 3, none⟩ = false ∧ RAt (W.setCell ⟨r2, (k + 1) * 5 + 3, none⟩ (.string (BA (datOf (putN x a' d m))))) q Y (T.set k (some (putN x a' d m))) nb ∧ GrownS w (W.setCell ⟨r2, (k + 1) * 5 + 3, none⟩ (.string (BA (datOf (putN x a' d m))))) Y)) := hide (fun wr m fr h => by
        rw [hWX] at h
        obtain ⟨⟨K2, a1, a2⟩, a3, a5⟩ := h
        have a4 := a1.tab.cell 0 rfl
        change _ = some (Value.slice (some ⟨K2.r, 0, none⟩) ((T.set k (some (hasM x a' m))).length + 1) K2.c) at a4
        rw [List.length_set] at a4
        refine ⟨K2.r, K2.c, a4, a1.lt.r, fun W hbW => ?_⟩
        have b1 := a1.grownS (S := fun _ => False) (grownS_of_below hbW) (a1.lt.mono (fun _ _ e => e))
        have b4 := b1.tab.cell 0 rfl
        change _ = some (Value.slice (some ⟨K2.r, 0, none⟩) ((T.set k (some (hasM x a' m))).length + 1) K2.c) at b4
        rw [List.length_set] at b4
        obtain ⟨e1, e2⟩ := b1.field a2 (set_same hk) (f := 3) (x' := putN x a' d m) (by decide) rfl (fun j hj hne => by
          match j, hj, hne with
          | 0, _, _ => rfl
          | 1, _, _ => rfl
          | 2, _, _ => rfl
          | 3, _, h => exact absurd rfl h
          | 4, _, _ => rfl) rfl
        rw [List.set_set] at e1
        exact ⟨b4, (b1.cellN (set_same hk) (j := 3) (by decide)).1, (b1.cellN (set_same hk) (j := 3) (by decide)).2, e1, (a3.trans (grownS_of_below hbW)).trans e2⟩)
      have HDT : Hid (∀ m, m ≤ n → datOf (putN x a' d m) = ((datOf x) ++ List.replicate (a' + m - x.size) 0).take a' ++ d.take m ++ ((datOf x) ++ List.replicate (a' + m - x.size) 0).drop (a' + m)) := hide (fun m hm => datOf_putN x hgx.zero a' m d (by omega))
      obtain ⟨tl, htl⟩ : ∃ tl, tl = T.length := ⟨_, rfl⟩
      rw [← htl] at HLO HFN hmx hkn
      have h3 : (k : Int) + 1 < (tl : Int) + 1 := by omega
      have h4 : (0 : Int) ≤ (k : Int) + 1 := by omega
      obtain ⟨S, hS⟩ : ∃ S, S = BA d := ⟨_, rfl⟩
      have hSs : S.size = n := by rw [hS, hn]; rfl
      have HSD := hide hS
      rw [← hS]
      have hwF : IntKind.i64.wrap ((nb : Int) - (usedT T : Int)) = (F : Int) := by rw [IntKind.wrap_i64, hF]; omega
      have hF4 : F ≤ 4096 := by omega
      have hn5 : n ≤ 5000 := by omega
      have HN := hide hn
      obtain ⟨us, hus⟩ : ∃ us, us = usedT T := ⟨_, rfl⟩
      rw [← hus] at HUS hwF
      obtain ⟨RX, hRX⟩ : ∃ P : World → Int → Int → Prop, P = fun wr N E => RWrL w wr q nb Y T ((k : Int) + 1) a' d N E := ⟨_, rfl⟩
      suffices hsuf : Calls Try.prog 41 #[.pointer (some ⟨q, 0, none⟩), .int .i64 ((k : Int) + 1), .int .i64 (a' : Int), .string S] w fun e w' => ∃ N E : Int, e = .returned (.tuple #[.int .i64 N, .int .i64 E]) ∧ Hid (RX w' N E) by
        rw [hRX] at hsuf
        exact hsuf
      have HRX : Hid (∀ wr N E, RWrL w wr q nb Y T ((k : Int) + 1) a' d N E → RX wr N E) := hide (fun wr N E h => by rw [hRX]; exact h)
      clear HL hx hin HH HRA hgd hk hgx hF hWX hEX hS hRX hus htl hn hub hbt
      go_enter Try.func41, Try.ntmps41
      go_wp2_with fail
      refine (unhide HI).mono ?_
      rintro e w1 ⟨rfl, hw1⟩
      rw [show w1 = w from hw1]
      clear hw1
      go_wp2_with fail
      go_region_held3 (fun w' => w'.cell? ⟨q, 1, none⟩ = some (.int .i64 (nb : Int))) (go_keep) ((go_at_call 45; refine (unhide HUS _ (by first | exact Below.refl _ _ | exact below_drew _ _)).mono ?_; rintro e wa ⟨rfl, a0, HA2⟩))
      have HS0 := hide (unhide HW0 wa (unhide HA2))
      clear HUS HW0 HA2 a0 q1
      go_wp2_with fail
      go_loopw [10, 11, 12] (fun f m y wr => ∃ (fr mm : Nat) (E : Int), f = .int .i64 (fr : Int) ∧ m = .int .i64 (mm : Int) ∧ y = .int .i64 E ∧ mm ≤ n ∧ fr ≤ 4096 ∧ (mm = 0 ∨ a' + mm ≤ 4096) ∧ Hid (WX wr mm fr ∧ EX E mm fr)) (fun _ m y _ => if intOf y = 0 then n + 1 - (intOf m).toNat else 0)
      case atStart => exact ⟨F, 0, 0, rfl, rfl, rfl, by omega, hF4, .inl rfl, hide ⟨unhide HS0, unhide HE0 _ _⟩⟩
      case round =>
        clear HS0
        obtain ⟨fr, mm, E, rfl, rfl, rfl, hmn, hfr, hm4, HR⟩ := hrel
        by_cases hgo : mm < n ∧ E = 0
        · obtain ⟨hlt, rfl⟩ := hgo
          have hlt1 : (mm : Int) < (n : Int) := by omega
          by_cases hbig : 4096 ≤ a' + mm
          · have hbig1 : 4096 - (mm : Int) ≤ (a' : Int) := by omega
            have HZ := hide (unhide HE3 mm fr hlt hbig)
            go_wp2
            go_roundw
            case rel => exact ⟨fr, mm, 3, rfl, rfl, rfl, hmn, hfr, hm4, hide ⟨(unhide HR).1, unhide HZ⟩⟩
            case measure => simp [intOf]; omega
          · have hbig1 : ¬ 4096 - (mm : Int) ≤ (a' : Int) := by omega
            obtain ⟨r2, c2, h2, hc2, z1, z2, z3, z4, Z5⟩ := unhide HLO wr mm fr (unhide HR).1 (by omega)
            have hq : Int.tdiv ((a' : Int) + (mm : Int)) 64 = (((a' + mm) / 64 : Nat) : Int) := by rw [Int.tdiv_eq_ediv_of_nonneg (by omega)]; omega
            obtain ⟨pt, hpt⟩ : ∃ pt, pt = (a' + mm) / 64 := ⟨_, rfl⟩
            rw [← hpt] at z3 z4 Z5 hq
            have hp64 : (pt : Int) < 64 := by omega
            have hp0 : (0 : Int) ≤ (pt : Int) := by omega
            have hab : a' + mm ≤ 4096 := by omega
            cases hbm : bt mm with
            | true =>
              rw [hbm] at z3
              have HZ := hide ((unhide Z5).1 hbm)
              clear Z5 hbm hpt
              go_wp2
              go_roundw
              case rel => exact ⟨fr, mm + 1, 0, rfl, by go_num, rfl, by omega, hfr, .inr (by omega), hide ⟨unhide HZ, unhide HE0 _ _⟩⟩
              case measure => simp [intOf]; omega
            | false =>
              rw [hbm] at z3
              by_cases hf0 : fr = 0
              · subst hf0
                have HZ := hide (unhide HE20 mm hlt (by omega) hbm)
                clear Z5 hbm hpt
                go_wp2
                go_roundw
                case rel => exact ⟨0, mm, 20, rfl, rfl, rfl, hmn, by omega, hm4, hide ⟨(unhide HR).1, unhide HZ⟩⟩
                case measure => simp [intOf]; omega
              · have HZ := hide ((unhide Z5).2 hbm (by omega))
                have hfb : ((fr : Int) == 0) = false := by simp; omega
                clear Z5 hbm hpt
                go_wp2
                go_roundw
                case rel => exact ⟨fr - 1, mm + 1, 0, by go_num, by go_num, rfl, by omega, by omega, .inr (by omega), hide ⟨unhide HZ, unhide HE0 _ _⟩⟩
                case measure => simp [intOf]; omega
        · have hend : mm = n ∨ E ≠ 0 := by
            by_cases h5 : mm = n
            · exact .inl h5
            · exact .inr (fun h6 => hgo ⟨by omega, h6⟩)
          go_upto_region 8 with fail
          go_cut [34] from 27 to 34 (fun v wx => v = .bool false ∧ wx = wr)
          case first =>
            by_cases h5 : mm < n
            · have h6 : (E == 0) = false := by
                have : E ≠ 0 := fun e => hgo ⟨h5, e⟩
                simpa using this
              have h7 : (mm : Int) < (n : Int) := by omega
              clear hgo hend
              go_wp2
              go_meet
              exact ⟨rfl, rfl⟩
            · have h7 : ¬ (mm : Int) < (n : Int) := by omega
              clear hgo hend
              go_wp2
              go_meet
              exact ⟨rfl, rfl⟩
          case rest =>
          obtain ⟨rfl, hwc⟩ := hcut
          rw [hwc]
          clear hwc
          obtain ⟨y1, y2⟩ := unhide HEN wr mm fr E (unhide HR).1 (unhide HR).2 hmn hm4 hend
          have HY1 := hide y1
          have HY2 := hide y2
          clear y1 y2 hgo hend HEN HE0 HE3 HE20 HLO
          by_cases hm0 : mm = 0
          · have HZ := hide (unhide HRX _ _ _ (unhide HY1 hm0))
            subst hm0
            clear HY1 HY2 HFN HDT HRX
            go_wp2
            go_ret2
            exact ⟨_, _, rfl, HZ⟩
          · obtain ⟨ha4, hs4, hsp⟩ := unhide HY2 (by omega)
            have HSP := hide hsp
            have hmb : ((mm : Int) == 0) = false := by simp; omega
            obtain ⟨r2, c2, z0, hrl, zW⟩ := unhide HFN wr mm fr (unhide HR).1
            have hdat := unhide HDT mm hmn
            clear HY1 HY2 HFN HDT hm0 hsp HR hm4
            have hS := unhide HSD
            have hnn := unhide HN
            obtain ⟨dd, hdd⟩ : ∃ dd, dd = BA (datOf x) := ⟨_, rfl⟩
            have hds : dd.size = x.size := by rw [hdd]; exact datOf_len x
            obtain ⟨B1, hB1⟩ : ∃ B1, B1 = BA (d.take mm) := ⟨_, rfl⟩
            have hexB : S.extract 0 mm = B1 := by rw [hS, hB1]; exact ext_take d mm
            have hBs : B1.size = mm := by rw [hB1, BA_size, List.length_take]; omega
            obtain ⟨R, hR⟩ : ∃ R, R = BA (datOf (putN x a' d mm)) := ⟨_, rfl⟩
            have h0a : (0 : Int) ≤ (a' : Int) := by omega
            have h0m : (0 : Int) ≤ (mm : Int) := by omega
            have hmn1 : (mm : Int) ≤ (n : Int) := by omega
            by_cases hgt : x.size < a' + mm
            · obtain ⟨zn, hzn⟩ : ∃ zn, zn = a' + mm - x.size := ⟨_, rfl⟩
              obtain ⟨zc, mk, cv, _⟩ := zeros_run zn (by omega)
              obtain ⟨Z1, hZ1⟩ : ∃ Z1, Z1 = BA (List.replicate zn 0) := ⟨_, rfl⟩
              have hZs : Z1.size = zn := by rw [hZ1, BA_size, List.length_replicate]
              simp only [← hZ1] at cv
              obtain ⟨E1, hE1⟩ : ∃ E1, dd ++ Z1 = E1 := ⟨_, rfl⟩
              have hEL : E1 = BA ((datOf x) ++ List.replicate (a' + mm - x.size) 0) := by rw [← hE1, hdd, hZ1, BA_add, hzn]
              have hel : ((datOf x) ++ List.replicate (a' + mm - x.size) 0).length = a' + mm := by rw [List.length_append, datOf_len, List.length_replicate]; omega
              have hEs : E1.size = a' + mm := by rw [hEL, BA_size, hel]
              obtain ⟨A1, hA1⟩ : ∃ A1, A1 = BA (((datOf x) ++ List.replicate (a' + mm - x.size) 0).take a') := ⟨_, rfl⟩
              have hexA : E1.extract 0 a' = A1 := by rw [hEL, hA1]; exact ext_take _ _
              have hAs : A1.size = a' := by rw [hA1, BA_size, List.length_take, hel]; omega
              have hcat : A1 ++ B1 = R := by
                have hdn : List.drop (a' + mm) (datOf x ++ List.replicate (a' + mm - x.size) 0) = [] := List.drop_eq_nil_of_le (by omega)
                rw [hA1, hB1, hR, BA_add, hdat, hdn, List.append_nil]
              have hcr : ∀ W : World, (Op.stringOp .add A1 B1).run Try.prog W = .ok (.string R) W := fun W => by
                rw [← hcat]
                exact run_string_add_sum W A1 B1 (by rw [hAs, hBs]; omega)
              have hRs : R.size = a' + mm := by rw [← hcat, ByteArray.size_append, hAs, hBs]
              have hbz : Below wr.heap.size wr (wr.alloc (.cells zc 5)) := (Below.refl _ _).alloc (Nat.le_refl _) _
              obtain ⟨_, c3, f3, _, _⟩ := zW wr (Below.refl _ _)
              obtain ⟨z0z, c3z, f3z, e1, e2⟩ := zW _ hbz
              rw [World.setCell_alloc_past (w := wr) _ r2 _ _ hrl] at e1 e2
              have HFI : Hid (RAt (((wr.setCell ⟨r2, (k + 1) * 5 + 3, none⟩ (.string (BA (datOf (putN x a' d mm))))).alloc (.cells zc 5)).drew) q Y (T.set k (some (putN x a' d mm))) nb ∧ GrownS w (((wr.setCell ⟨r2, (k + 1) * 5 + 3, none⟩ (.string (BA (datOf (putN x a' d mm))))).alloc (.cells zc 5)).drew) Y) := hide ⟨e1.below (below_drew _ 1), e2.trans (grownS_of_below (below_drew _ 1))⟩
              rw [← hR] at HFI
              rw [← hdd] at c3 c3z
              obtain ⟨sz, hsz2⟩ : ∃ sz, sz = x.size := ⟨_, rfl⟩
              rw [← hsz2] at hds hsz hzn hgt
              have hgt1 : (sz : Int) < (a' : Int) + (mm : Int) := by omega
              have hzI : (a' : Int) + (mm : Int) - (sz : Int) = (zn : Int) := by omega
              have hzb : zn ≤ 4096 := by omega
              have haE : (a' : Int) ≤ (a' : Int) + (mm : Int) := by omega
              have hwr2 : IntKind.i64.wrap ((a' : Int) + (mm : Int)) = (a' : Int) + (mm : Int) := by rw [IntKind.wrap_i64]; omega
              clear hS hnn hdd hB1 hR hgt hzn hZ1 hEL hel hA1 hbz e1 e2 hdat zW hsz2 HSD HN
              go_wp2_with fail
              go_region
              go_wp2
              go_ret2
              exact ⟨_, _, rfl, hide (unhide HRX _ _ _ ⟨_, unhide HSP, unhide HFI⟩)⟩
            · obtain ⟨A1, hA1⟩ : ∃ A1, A1 = BA ((datOf x).take a') := ⟨_, rfl⟩
              obtain ⟨C1, hC1⟩ : ∃ C1, C1 = BA ((datOf x).drop (a' + mm)) := ⟨_, rfl⟩
              have hexA : dd.extract 0 a' = A1 := by rw [hdd, hA1]; exact ext_take _ _
              have hexC : dd.extract (a' + mm) x.size = C1 := by rw [hdd, hC1]; exact ext_drop _ _ _ (datOf_len x)
              have hAs : A1.size = a' := by rw [hA1, BA_size, List.length_take, datOf_len]; omega
              have hCs : C1.size = x.size - (a' + mm) := by rw [hC1, BA_size, List.length_drop, datOf_len]
              obtain ⟨AB, hAB⟩ : ∃ AB, A1 ++ B1 = AB := ⟨_, rfl⟩
              have hABs : AB.size = a' + mm := by rw [← hAB, ByteArray.size_append, hAs, hBs]
              have hcat : AB ++ C1 = R := by
                rw [← hAB, hA1, hB1, hC1, hR, BA_add, BA_add, hdat, show a' + mm - x.size = 0 by omega]
                simp
              have hcr : ∀ W : World, (Op.stringOp .add A1 B1).run Try.prog W = .ok (.string AB) W := fun W => by
                rw [← hAB]
                exact run_string_add_sum W A1 B1 (by rw [hAs, hBs]; omega)
              have hcr2 : ∀ W : World, (Op.stringOp .add AB C1).run Try.prog W = .ok (.string R) W := fun W => by
                rw [← hcat]
                exact run_string_add_sum W AB C1 (by rw [hABs, hCs]; omega)
              obtain ⟨_, c3, f3, e1, e2⟩ := zW wr (Below.refl _ _)
              have HFI : Hid (RAt ((wr.setCell ⟨r2, (k + 1) * 5 + 3, none⟩ (.string (BA (datOf (putN x a' d mm))))).drew) q Y (T.set k (some (putN x a' d mm))) nb ∧ GrownS w ((wr.setCell ⟨r2, (k + 1) * 5 + 3, none⟩ (.string (BA (datOf (putN x a' d mm))))).drew) Y) := hide ⟨e1.below (below_drew _ 1), e2.trans (grownS_of_below (below_drew _ 1))⟩
              rw [← hR] at HFI
              rw [← hdd] at c3
              obtain ⟨sz, hsz2⟩ : ∃ sz, sz = x.size := ⟨_, rfl⟩
              rw [← hsz2] at hds hsz hgt hexC hCs
              have hgt1 : ¬ (sz : Int) < (a' : Int) + (mm : Int) := by omega
              have haE : (a' : Int) ≤ (sz : Int) := by omega
              have haE2 : (a' : Int) + (mm : Int) ≤ (sz : Int) := by omega
              have hwr2 : IntKind.i64.wrap ((a' : Int) + (mm : Int)) = (a' : Int) + (mm : Int) := by rw [IntKind.wrap_i64]; omega
              clear hS hnn hdd hB1 hR hgt hA1 hC1 e1 e2 hdat zW hsz2 HSD HN
              go_wp2_with fail
              go_region
              go_wp2
              go_ret2
              exact ⟨_, _, rfl, hide (unhide HRX _ _ _ ⟨_, unhide HSP, unhide HFI⟩)⟩

end Go.Proofs.Ytcfhgjlihifmnaa

/-
  Directories (stage 13): Unlink, Rmdir, Hold, Loose, Write.
  Directories (stage 13): names in order: rising, List, Stat; Write.
-/
import Derived.Test.YtemologkibcdoaaGreatDoorM25
import Derived.Test.YtemologkibcdoaaGreatDoorM21

/- Directories (stage 13): Unlink, Rmdir, Hold, Loose, Write. -/
namespace Go.Proofs.YtemologkibcdoaaGreatDoor
open Go.RowKit Go.Maps

theorem unlink_is (s : NS) (d : Int) (p : List UInt8) : unlinkE s d p = if fndE s d p ≠ 0 then fndE s d p else if isD s (findN s (placeN s d p).1 (placeN s d p).2.1) then 24 else 0 := by
  unfold unlinkE fndE
  by_cases h1 : (placeN s d p).2.2 ≠ 0
  · rw [if_pos h1, if_pos h1, if_pos h1]
  · rw [if_neg h1, if_neg h1]
    by_cases h2 : findN s (placeN s d p).1 (placeN s d p).2.1 = 0
    · rw [if_pos h2, if_pos h2]; rfl
    · rw [if_neg h2, if_neg h2]
      simp
theorem rmdir_is (s : NS) (d : Int) (p : List UInt8) : rmdirE s d p = if fndE s d p ≠ 0 then fndE s d p else if isD s (findN s (placeN s d p).1 (placeN s d p).2.1) = false then 25 else if inN s (findN s (placeN s d p).1 (placeN s d p).2.1) ≠ [] then 26 else 0 := by
  unfold rmdirE fndE
  by_cases h1 : (placeN s d p).2.2 ≠ 0
  · rw [if_pos h1, if_pos h1, if_pos h1]
  · rw [if_neg h1, if_neg h1]
    by_cases h2 : findN s (placeN s d p).1 (placeN s d p).2.1 = 0
    · rw [if_pos h2, if_pos h2]; rfl
    · rw [if_neg h2, if_neg h2]
      simp
/-- Which directories there are behind forget. -/
theorem keep_iff {s : NS} {T' : TB} {I : Int} (h1 : ∀ k, k ≠ I → kdI T' k = kdI s.T k) (h2 : kdI T' I = kdI s.T I ∨ kdI T' I = 0) (d : Int) : keepD T' I (fun d => kdI s.T d = 2) d ↔ kdI T' d = 2 := by
  unfold keepD
  by_cases e : d = I
  · subst e
    constructor
    · rintro ⟨a1, a2⟩
      rcases h2 with h3 | h3
      · rw [h3]; exact a1
      · exact absurd rfl (a2 (by rw [h3]; decide))
    · intro h
      rcases h2 with h3 | h3
      · exact ⟨h3.symm.trans h, fun h4 => absurd h h4⟩
      · rw [h3] at h; cases h
  · rw [h1 d e]
    exact ⟨fun h => h.1, fun h => ⟨h, fun _ => e⟩⟩
/-- A name is gone, in memory. -/
theorem gone_mem {w' : World} {q nb : Nat} {Y : Nat → Prop} {s : NS} {N : Int} {t : List UInt8} {I : Int} (hI : I = findN s N t) (hg : GAt w' q Y (untT s.T I) (dropL s.L N t) (forgP (untT s.T I) I s.par) (keepD (untT s.T I) I (fun d => kdI s.T d = 2)) nb) : NdAt w' q Y (goneS s N t) nb := by
  unfold goneS
  rw [← hI]
  exact GAt.toN hg (keep_iff (fun k hk => (unt_kd s.T I k).1 hk) (unt_kd s.T I 0).2)
set_option maxRecDepth 20000 in
set_option maxHeartbeats 4000000 in
theorem unlink_any {w : World} {f q nb n : Nat} {B : Bas} {Y : Nat → Prop} {s : NS} (H : FX w f q Y s nb n B) (hnn : n ≤ 10000) (d : Int) (p : List UInt8) (hb : -9223372036854775808 ≤ d ∧ d ≤ 9223372036854775807) (hp : p.length ≤ 100000) : Calls Tryz.prog 15 #[.pointer (some ⟨f, 0, none⟩), .int .i64 d, .string (BA p)] w fun e w' => e = .returned (.int .i64 (unlinkE s d p)) ∧ Hid (FX w' f q Y (unlinkS s d p) nb (n + 1) B) := by
  have HFD := hide (nfind_any H d p hb hp)
  have HUE := hide (unlink_is s d p)
  obtain ⟨UE, hUE⟩ : ∃ UE, UE = unlinkE s d p := ⟨_, rfl⟩
  have HUS : Hid (unlinkS s d p = if UE = 0 then goneS s (placeN s d p).1 (placeN s d p).2.1 else s) := hide (by unfold unlinkS; rw [hUE])
  rw [← hUE] at HUE ⊢
  obtain ⟨US, hUS⟩ : ∃ US, US = unlinkS s d p := ⟨_, rfl⟩
  rw [← hUS] at HUS ⊢
  have HH := hide H
  clear H hUE hUS
  go_enter Tryz.func15, Tryz.ntmps15
  go_wp2_with fail
  refine (unhide HFD).mono ?_
  rintro e w2 ⟨N, t, I, E, rfl, HP⟩
  have HFI := hide (unhide HP).1
  have hbw3 : Below w2.heap.size w2 (w2.alloc (.cells #[.int .i64 N, .string (BA t)] 85)) := (Below.refl _ w2).alloc (Nat.le_refl _) _
  have HB3 := hide ((unhide HP).2.trans (hbw3.mono (unhide HP).2.size))
  have HA3 := hide (Blk.new w2 85 #[.int .i64 N, .string (BA t)])
  have HR3 := hide ((unhide HH).below (unhide HB3))
  have HNW := hide (unhide HP).2.size
  clear HFD HP hbw3
  by_cases hE : E = 0
  · subst hE
    obtain ⟨p0, p1, p2, p3, p4⟩ := (unhide HFI).ok rfl
    have hrg := (unhide HFI).rng
    have htl := (unhide HFI).len
    have HUE2 : Hid (UE = if isD s I then 24 else 0) := hide (by rw [unhide HUE, ← (unhide HFI).e, if_neg (by decide), ← p1, ← p2, ← p3])
    have HUS2 : Hid (UE = 0 → US = goneS s N t) := hide (fun h => by rw [unhide HUS, if_pos h, ← p1, ← p2])
    have HUS3 : Hid (UE ≠ 0 → US = s) := hide (fun h => by rw [unhide HUS, if_neg h])
    have HID := hide (isDir_any (unhide HR3).nd I (by omega))
    have HKD : Hid (kdI s.T N = 2) := hide (by rw [p1]; exact place_dir p0)
    have HI3 := hide p3
    have HI4 := hide p4
    clear p0 p1 p2 p3 p4 HUE HUS HFI
    have c0 : (w2.alloc (.cells #[.int .i64 N, .string (BA t)] 85)).cell? ⟨f, 0, none⟩ = some (.pointer (some ⟨q, 0, none⟩)) := (unhide HR3).blk.cell 0 rfl
    cases hdd : isD s I with
    | true =>
      rw [hdd] at HID HUE2
      simp only [if_true] at HUE2
      have hue := unhide HUE2
      subst hue
      have HX : Hid (FX (w2.alloc (.cells #[.int .i64 N, .string (BA t)] 85)) f q Y US nb (n + 1) B) := hide (by rw [unhide HUS3 (by decide)]; exact (unhide HR3).mono (Nat.le_succ _))
      clear hdd
      go_wp2_with fail
      refine (unhide HID).mono ?_
      rintro e w4 ⟨rfl, hw4⟩
      subst hw4
      go_wp2_with fail
      go_ret
      exact ⟨rfl, HX⟩
    | false =>
      rw [hdd] at HID HUE2
      simp only [Bool.false_eq_true, if_false] at HUE2
      have hue := unhide HUE2
      subst hue
      have HGS := hide (unhide HUS2 rfl)
      have HDD := hide hdd
      clear hdd
      go_wp2_with fail
      refine (unhide HID).mono ?_
      rintro e w4 ⟨rfl, hw4⟩
      obtain ⟨W3, hW3⟩ : ∃ W3, W3 = w2.alloc (.cells #[.int .i64 N, .string (BA t)] 85) := ⟨_, rfl⟩
      rw [← hW3] at hw4 HB3 HA3 HR3 c0
      subst hw4
      obtain ⟨ab, hab⟩ : ∃ ab, ab = w2.heap.size := ⟨_, rfl⟩
      rw [← hab] at HA3 HNW ⊢
      have hab2 : ab < w4.heap.size := (unhide HA3).lt
      obtain ⟨Z, hZ⟩ : ∃ Z : Nat → Prop, Z = fun k => Upto w Y k ∨ w4.heap.size ≤ k := ⟨_, rfl⟩
      have HZY : Hid (∀ k, Z k → Y k) := hide (by
        rw [hZ]
        rintro k (h | h)
        · exact h.1
        · exact (unhide HR3).new k h)
      have HFZ : Hid (FX w4 f q Z s nb n B) := hide (by rw [hZ]; exact (unhide HH).renew (unhide HB3))
      have HG3 : Hid (GAt w4 q Z s.T s.L s.par (fun d => kdI s.T d = 2) nb) := hide ((unhide HFZ).nd.at'.toG (unhide HH).nd.ok)
      have HUT : Hid (∀ W, FX W f q Z s nb n B ∧ Below w4.heap.size w4 W → Calls Tryz.prog 40 #[.pointer (some ⟨q, 0, none⟩), .agg #[.int .i64 N, .string (BA t)], .int .i64 I] W fun e w' => e = .returned (.tuple #[]) ∧ (w'.cell? ⟨f, 0, none⟩ = some (.pointer (some ⟨q, 0, none⟩)) ∧ w'.cell? ⟨ab, 0, none⟩ = some (.int .i64 N) ∧ w'.cell? ⟨ab, 1, none⟩ = some (.string (BA t))) ∧ Hid (FX w' f q Y US nb (n + 1) B)) := hide (fun W h => (untie_any (h.1.nd.at'.toG (unhide HH).nd.ok) h.1.new N t I (fun c hc e => up_or (unhide HH).nd.ok.up hc e) (unhide HKD) (by omega) (by omega) (fun k y hy => Nat.le_trans ((unhide HH).nd.ok.gd k y hy).2.1 (by omega))).mono fun _ w' ⟨e1, e2⟩ => by
        obtain ⟨g1, g2⟩ := unhide e2
        have hZab : ¬ Z ab := by
          rw [hZ]
          rintro (h | h)
          · have := h.2; have := unhide HNW; omega
          · omega
        have ha := ((unhide HA3).below h.2 hab2).grownS g2 hZab
        have hfx := (h.1.turn (gone_mem (unhide HI3) g1) g2 (n' := n + 1) ((ok_gone (unhide HH).nd.ok (by rw [← unhide HI3]; exact unhide HI4) (by rw [← unhide HI3]; exact fun e => absurd (decide_eq_true e) (by rw [show decide (kdI s.T I = 2) = false from unhide HDD]; decide))).mono (Nat.le_succ _)))
        refine ⟨e1, ⟨hfx.blk.cell 0 rfl, ha.cell 0 rfl, ha.cell 1 rfl⟩, hide ?_⟩
        rw [unhide HGS]
        exact ⟨⟨hfx.nd.at'.mono (fun k _ h => unhide HZY k h), hfx.nd.ok, hfx.nd.env, (unhide HH).nd.yb⟩, hfx.blk, (unhide HH).no, fun k hk => unhide HZY k (hfx.new k hk)⟩)
      have g0 : w4.cell? ⟨ab, 0, none⟩ = some (.int .i64 N) := (unhide HA3).cell 0 rfl
      have g1 : w4.cell? ⟨ab, 1, none⟩ = some (.string (BA t)) := (unhide HA3).cell 1 rfl
      have H0 := hide (show FX w4 f q Z s nb n B ∧ Below w4.heap.size w4 w4 from ⟨unhide HFZ, Below.refl _ _⟩)
      have HD : Hid (∀ W k, FX W f q Z s nb n B ∧ Below w4.heap.size w4 W → FX (W.drewN k) f q Z s nb n B ∧ Below w4.heap.size w4 (W.drewN k)) := hide (fun W k h => ⟨h.1.below (below_drew W k), h.2.trans ((below_drew W k).mono h.2.size)⟩)
      clear hW3 hab hZ HID HA3 HG3 hab2
      go_wp2_with fail
      go_region_held3 (fun w' => w'.cell? ⟨f, 0, none⟩ = some (.pointer (some ⟨q, 0, none⟩)) ∧ w'.cell? ⟨ab, 0, none⟩ = some (.int .i64 N) ∧ w'.cell? ⟨ab, 1, none⟩ = some (.string (BA t))) (go_keep) ((go_at_call 40; refine (unhide HUT _ (by first | exact unhide H0 | exact unhide HD _ _ (unhide H0))).mono ?_; rintro e wa ⟨rfl, a2, HA⟩))
      clear a2 g0 g1 c0 HUT
      go_wp2_with fail
      go_ret
      exact ⟨rfl, HA⟩
  · have hE1 : (E != 0) = true := by simpa using hE
    have hue : UE = E := by rw [unhide HUE, ← (unhide HFI).e, if_pos hE]
    subst hue
    have HX : Hid (FX (w2.alloc (.cells #[.int .i64 N, .string (BA t)] 85)) f q Y US nb (n + 1) B) := hide (by rw [unhide HUS, if_neg hE]; exact (unhide HR3).mono (Nat.le_succ _))
    clear hE
    go_wp2_with fail
    go_ret
    exact ⟨rfl, HX⟩

/-- The table alone turned, and kinds stayed. -/
theorem FX.table {w w' : World} {f q nb n n' : Nat} {B : Bas} {Y : Nat → Prop} {s : NS} (H : FX w f q Y s nb n B) {T' : TB} (h1 : GAt w' q Y T' s.L s.par (fun d => kdI s.T d = 2) nb) (h2 : GrownS w w' Y) (hk : ∀ d, kdI s.T d = 2 ↔ kdI T' d = 2) (h3 : NOk { s with T := T' } n') : FX w' f q Y { s with T := T' } nb n' B := H.turn (GAt.toN h1 hk) h2 h3
theorem hold_kd (T : TB) (i k : Int) : kdI (holdT T i) k = kdI T k := by
  unfold holdT
  cases hx : ndAt T i with
  | none => rfl
  | some x =>
    unfold kdI
    rw [set_nd hx]
    split
    · rename_i e; rw [e, hx]; rfl
    · rfl
set_option maxRecDepth 20000 in
set_option maxHeartbeats 1000000 in
theorem nhold_any {w : World} {f q nb n : Nat} {B : Bas} {Y : Nat → Prop} {s : NS} (H : FX w f q Y s nb n B) (hnn : n ≤ 10000) (d : Int) (hb : -9223372036854775808 ≤ d ∧ d ≤ 9223372036854775807) : Calls Tryz.prog 65 #[.pointer (some ⟨f, 0, none⟩), .int .i64 d] w fun e w' => e = .returned (.int .i64 (tieE s.T d)) ∧ Hid (FX w' f q Y { s with T := holdT s.T d } nb (n + 1) B) := by
  have c0 : w.cell? ⟨f, 0, none⟩ = some (.pointer (some ⟨q, 0, none⟩)) := H.blk.cell 0 rfl
  have HE := hide (empty_any H)
  obtain ⟨t, X, c1, htab, hX, hturn⟩ := (H.nd.at'.toG H.nd.ok).tbl H.new
  have HT := hide (thold_any htab d hb (fun k y hy => Nat.le_trans (H.nd.ok.gd k y hy).2.2 (by omega)))
  have HTU := hide hturn
  have HH := hide H
  clear H htab hX hturn
  go_enter Tryz.func65, Tryz.ntmps65
  go_wp2_with fail
  refine (unhide HE).mono ?_
  rintro e w1 ⟨rfl, hw1⟩
  subst hw1
  go_wp2_with fail
  refine (unhide HT).mono ?_
  rintro e w2 ⟨rfl, k1, k2⟩
  have HG := hide (unhide HTU w2 _ k1 k2)
  clear k1 k2 HTU
  go_wp2_with fail
  go_ret
  exact ⟨rfl, hide ((unhide HH).table (unhide HG).1 (unhide HG).2 (fun d => by rw [hold_kd]) (quiet_ok (unhide HH).nd.ok (quiet_hold _ _) (good_hold (unhide HH).nd.ok.gd _) (Nat.le_succ _) (hold_len _ _) (hold_kd _ _)))⟩
set_option maxRecDepth 20000 in
set_option maxHeartbeats 1000000 in
theorem nloose_any {w : World} {f q nb n : Nat} {B : Bas} {Y : Nat → Prop} {s : NS} (H : FX w f q Y s nb n B) (hnn : n ≤ 10000) (d : Int) (hb : -9223372036854775808 ≤ d ∧ d ≤ 9223372036854775807) : Calls Tryz.prog 229 #[.pointer (some ⟨f, 0, none⟩), .int .i64 d] w fun e w' => e = .returned (.int .i64 (looE s.T d)) ∧ Hid (FX w' f q Y (looS s d) nb (n + 1) B) := by
  have c0 : w.cell? ⟨f, 0, none⟩ = some (.pointer (some ⟨q, 0, none⟩)) := H.blk.cell 0 rfl
  have HE := hide (empty_any H)
  obtain ⟨t, X, c1, htab, hX, hturn⟩ := (H.nd.at'.toG H.nd.ok).tbl H.new
  have HT := hide (tloose_any htab d hb (fun k y hy => Nat.le_trans (H.nd.ok.gd k y hy).2.2 (by omega)))
  have HTU := hide hturn
  have HH := hide H
  clear H htab hX hturn
  go_enter Tryz.func229, Tryz.ntmps229
  go_wp2_with fail
  refine (unhide HE).mono ?_
  rintro e w1 ⟨rfl, hw1⟩
  subst hw1
  go_wp2_with fail
  refine (unhide HT).mono ?_
  rintro e w2 ⟨rfl, k1, k2⟩
  have HG := hide (unhide HTU w2 _ k1 k2)
  have c0' : w2.cell? ⟨f, 0, none⟩ = some (.pointer (some ⟨q, 0, none⟩)) := ((unhide HH).blk.grownS (unhide HG).2 (unhide HH).no).cell 0 rfl
  have HF := hide (forget_any (unhide HG).1 d (fun c hc e => up_or (unhide HH).nd.ok.up hc e) hb)
  clear k1 k2 HTU c0 c1
  go_wp2_with fail
  refine (unhide HF).mono ?_
  rintro e w3 ⟨rfl, HX⟩
  go_wp2_with fail
  go_ret
  exact ⟨rfl, hide ((unhide HH).turn (GAt.toN (unhide HX).1 (keep_iff (fun k hk => (loo_kd s.T d k).1 hk) (loo_kd s.T d 0).2)) ((unhide HG).2.trans (unhide HX).2) ((ok_loose (unhide HH).nd.ok d).mono (Nat.le_succ _)))⟩
set_option maxRecDepth 20000 in
set_option maxHeartbeats 1000000 in
theorem nkind_any {w : World} {f q nb n : Nat} {B : Bas} {Y : Nat → Prop} {s : NS} (H : FX w f q Y s nb n B) (d : Int) (hb : -9223372036854775808 ≤ d ∧ d ≤ 9223372036854775807) : Calls Tryz.prog 36 #[.pointer (some ⟨f, 0, none⟩), .int .i64 d] w fun e w' => e = .returned (.tuple #[.int .i64 (kdI s.T d : Int), .int .i64 (if kdI s.T d = 0 then 23 else 0)]) ∧ w' = w := by
  have c0 : w.cell? ⟨f, 0, none⟩ = some (.pointer (some ⟨q, 0, none⟩)) := H.blk.cell 0 rfl
  have HE := hide (empty_any H)
  obtain ⟨t, dm, M, X, HL, _⟩ := H.nd.at'
  have c1 : w.cell? ⟨q, 0, none⟩ = some (.pointer (some ⟨t, 0, none⟩)) := HL.nds.cell 0 rfl
  have HK := hide (HL.kind d hb)
  obtain ⟨k, hk⟩ : ∃ k, k = kdI s.T d := ⟨_, rfl⟩
  rw [← hk] at HK ⊢
  clear H HL hk
  by_cases h0 : k = 0
  · subst h0
    go_enter Tryz.func36, Tryz.ntmps36
    go_wp2_with fail
    refine (unhide HE).mono ?_
    rintro e w1 ⟨rfl, hw1⟩
    subst hw1
    go_wp2_with fail
    refine (unhide HK).mono ?_
    rintro e w1 ⟨rfl, hw1⟩
    subst hw1
    go_wp2_with fail
    go_ret2
    exact ⟨rfl, rfl⟩
  · have h1 : (((k : Nat) : Int) == 0) = false := by rw [beq_eq_false_iff_ne]; omega
    rw [if_neg h0]
    clear h0
    go_enter Tryz.func36, Tryz.ntmps36
    go_wp2_with fail
    refine (unhide HE).mono ?_
    rintro e w1 ⟨rfl, hw1⟩
    subst hw1
    go_wp2_with fail
    refine (unhide HK).mono ?_
    rintro e w1 ⟨rfl, hw1⟩
    subst hw1
    go_wp2_with fail
    go_ret2
    exact ⟨rfl, rfl⟩

end Go.Proofs.YtemologkibcdoaaGreatDoor

/- Directories (stage 13): names in order: rising, List, Stat; Write. -/
namespace Go.Proofs.YtemologkibcdoaaGreatDoor
open Go.RowKit Go.Maps Go.Sort

/-- The slice v holds these texts. -/
def TRow (w : World) (v : Value) (l : List (List UInt8)) : Prop := (v = .slice none 0 0 ∧ l = []) ∨ ∃ (g cap : Nat) (cs : Array Value), v = .slice (some ⟨g, 0, none⟩) l.length cap ∧ l.length ≤ cap ∧ cap ≤ maxLen ∧ w.heap[g]? = some (.cells cs 9 (0, 0)) ∧ cap ≤ cs.size ∧ ∀ (i : Nat) (x : List UInt8), l[i]? = some x → cs[i]? = some (.string (BA x))
theorem TRow.of {w : World} {base n : Nat} {v : Value} {l : List (List UInt8)} (h : w.ownsRow base 9 1 v n (l.map fun x => .string (BA x))) (hn : n = l.length) : TRow w v l ∧ ∀ k, v.ownBlock = some k → base ≤ k := by
  subst hn
  obtain ⟨h0, ⟨rfl, h1⟩ | ⟨g, cap, cur, rfl, hb, hg, hle, hm, hsz, htk⟩⟩ := h
  · exact ⟨.inl ⟨rfl, List.eq_nil_of_length_eq_zero h1⟩, fun k hk => by cases hk⟩
  · refine ⟨.inr ⟨g, cap, cur, rfl, hle, hm, hg, by omega, fun i x hi => ?_⟩, fun k hk => ?_⟩
    · have hil := (List.getElem?_eq_some_iff.1 hi).1
      have e1 : (cur.toList.take (l.length * 1))[i]? = some (.string (BA x)) := by rw [htk, List.getElem?_map, hi]; rfl
      rw [List.getElem?_take, if_pos (by omega)] at e1
      simpa using e1
    · injection hk with hk
      subst hk
      exact hb
theorem TRow.grownS {w w' : World} {v : Value} {l : List (List UInt8)} {S : Nat → Prop} (h : TRow w v l) (hg : GrownS w w' S) (hv : ∀ k, v.ownBlock = some k → ¬ S k) : TRow w' v l := by
  rcases h with h | ⟨g, cap, cs, rfl, h1, h2, h3, h4⟩
  · exact .inl h
  · exact .inr ⟨g, cap, cs, rfl, h1, h2, (hg.block g (Array.getElem?_eq_some_iff.1 h3).1 (hv g rfl)).trans h3, h4⟩
theorem TRow.below {w w' : World} {v : Value} {l : List (List UInt8)} (h : TRow w v l) (hb : Below w.heap.size w w') : TRow w' v l := h.grownS (S := fun _ => False) (grownS_of_below hb) (fun _ _ e => e)
theorem TRow.len {w : World} {v : Value} {l : List (List UInt8)} (h : TRow w v l) : ∃ ad cap, v = .slice ad l.length cap ∧ l.length ≤ cap ∧ cap ≤ maxLen := by
  rcases h with ⟨rfl, rfl⟩ | ⟨g, cap, cs, rfl, h1, h2, _⟩
  · exact ⟨none, 0, rfl, by simp, Nat.zero_le _⟩
  · exact ⟨_, cap, rfl, h1, h2⟩
theorem TRow.at {w : World} {ad : Option Addr} {n cap : Nat} {l : List (List UInt8)} (h : TRow w (.slice ad n cap) l) {i : Nat} {x : List UInt8} (hi : l[i]? = some x) : ∃ g, ad = some ⟨g, 0, none⟩ ∧ w.cell? ⟨g, i, none⟩ = some (.string (BA x)) := by
  rcases h with ⟨_, rfl⟩ | ⟨g', cap', cs, h, _, _, hg, _, hc⟩
  · simp at hi
  · injection h with h1 h2 h3
    subst h1
    exact ⟨g', rfl, by simp [World.cell?, hg, hc i x hi]⟩
/-! Order. -/
theorem before_lt : ∀ {a b : List UInt8}, bytesBefore a b = true → a < b
  | [], [], h => by cases h
  | [], _ :: _, _ => by simp
  | _ :: _, [], h => by cases h
  | x :: a, y :: b, h => by
    rw [bytesBefore, Bool.or_eq_true, Bool.and_eq_true, beq_iff_eq, decide_eq_true_eq] at h
    rw [List.cons_lt_cons_iff]
    rcases h with h | ⟨h1, h2⟩
    · exact .inl h
    · exact .inr ⟨h1, before_lt h2⟩
theorem le_tr (a b c : List UInt8) (h1 : decide (a ≤ b) = true) (h2 : decide (b ≤ c) = true) : decide (a ≤ c) = true := by
  simp only [decide_eq_true_eq] at *
  exact List.le_trans h1 h2
theorem le_tot (a b : List UInt8) : (decide (a ≤ b) || decide (b ≤ a)) = true := by
  rcases List.le_total a b with h | h <;> simp [h]
theorem in_sorted {L : List Nm} (h : Srt L) (d : Int) : (inL L d).Pairwise fun a b => decide (a ≤ b) = true := by
  unfold inL
  rw [List.pairwise_map]
  have h1 : (L.filter (fun x => decide (x.dir = d))).Pairwise (fun a b => ltM a b = true) := List.Pairwise.filter _ h
  refine List.Pairwise.imp_of_mem ?_ h1
  intro a b ha hb hab
  have e1 : a.dir = d := by simpa using (List.mem_filter.1 ha).2
  have e2 : b.dir = d := by simpa using (List.mem_filter.1 hb).2
  simp only [ltM, e1, e2, Bool.or_eq_true, Bool.and_eq_true, decide_eq_true_eq] at hab
  simp only [decide_eq_true_eq]
  rcases hab with hab | hab
  · omega
  · exact List.le_of_lt (before_lt (by rw [← ltT_bef]; exact hab.2))
theorem sorted_keys {L : List Nm} (h : Srt L) (d : Int) {ss : List (List UInt8)} (hp : ss.Perm (inL L d)) : ss.mergeSort (fun x y => decide (x ≤ y)) = inL L d := by
  refine List.Perm.eq_of_pairwise ?_ (List.pairwise_mergeSort le_tr le_tot ss) (in_sorted h d) ((List.mergeSort_perm ss _).trans hp)
  intro a b _ _ h1 h2
  simp only [decide_eq_true_eq] at h1 h2
  exact List.le_antisymm h1 h2
theorem keys_dat (L : List Nm) (d : Int) : strKeys (datN L d) = inL L d := by
  show ((entN L d).map encN).map (fun p => strOf p.1) = _
  rw [List.map_map]
  rfl
theorem in_len {s : NS} {n : Nat} (K : NOk s n) (d : Int) : (inL s.L d).length ≤ n := by
  rw [inL_len]
  exact Nat.le_trans List.countP_le_length K.len
theorem in_no {s : NS} (K : NInv s) {d : Int} (hd : kdI s.T d ≠ 2) : inL s.L d = [] := by
  unfold inL
  have : s.L.filter (fun x => decide (x.dir = d)) = [] := List.filter_eq_nil_iff.2 (fun y hy e => hd (by rw [← of_decide_eq_true e]; exact (K.dirs y hy).1))
  rw [this]
  rfl
/-- The names of a directory's map, in order. -/
theorem keys_any {w : World} {q t dm nb n : Nat} {M : Int → Nat} {X : Nat → Prop} {s : NS} (HL : NdL w q t dm M X s nb) (K : NOk s n) (hn : n ≤ 100000) (d : Int) : Calls Tryz.prog 55 #[.func (.func 75) #[] #[.pointer (some ⟨w.heap.size, 0, none⟩)]] (w.alloc (.cells #[.map (mapOf s M d)] 134)) fun e w' => ∃ v', e = .returned v' ∧ TRow w' v' (inL s.L d) ∧ (∀ k, v'.ownBlock = some k → w.heap.size ≤ k) ∧ Below w.heap.size w w' := by
  have hal : Below w.heap.size w (w.alloc (.cells #[.map (mapOf s M d)] 134)) := (Below.refl _ w).alloc (Nat.le_refl _) _
  have hsz0 : w.heap.size ≤ (w.alloc (.cells #[.map (mapOf s M d)] 134)).heap.size := hal.size
  by_cases hd : kdI s.T d = 2
  · have e : mapOf s M d = some (M d) := if_pos hd
    rw [e] at hal hsz0 ⊢
    have ho := (HL.each d hd).1
    have hsz : Maps.size (datN s.L d) ≤ n := by rw [dat_size]; exact in_len K d
    refine (callsIn_wide.1 (Tryz.slices_Sorted_keys_55_56 (M d) _ (datN s.L d) itself w ho (by unfold maxLen; omega) (by omega))).mono ?_
    rintro e w' ⟨v, ss, rfl, hp, hrow, _, hb⟩
    rw [keys_dat] at hp
    rw [sorted_keys K.inv.srt d hp] at hrow
    have := TRow.of (l := inL s.L d) hrow (by rw [hp.length_eq])
    exact ⟨v, rfl, this.1, fun k hk => Nat.le_trans hsz0 (this.2 k hk), hal.trans (hb.mono hsz0)⟩
  · have e : mapOf s M d = none := if_neg hd
    rw [e] at hal hsz0 ⊢
    rw [in_no K.inv hd]
    refine (callsIn_wide.1 (Tryz.slices_Sorted_keys_nil_55_56 w)).mono ?_
    rintro e w' ⟨v, ss, rfl, rfl, hrow, _, hb⟩
    have hrow : w'.ownsRow (w.alloc (.cells #[.map none] 134)).heap.size 9 1 v 0 [] := by simpa using hrow
    have := TRow.of (l := []) hrow rfl
    exact ⟨v, rfl, this.1, fun k hk => Nat.le_trans hsz0 (this.2 k hk), hal.trans (hb.mono hsz0)⟩
set_option maxRecDepth 20000 in
set_option maxHeartbeats 1000000 in
theorem rising_any {w : World} {q nb n : Nat} {B : Bas} {Y : Nat → Prop} {s : NS} (H : NdX w q Y s nb n B) (hn : n ≤ 100000) (i : Int) (hb : -9223372036854775808 ≤ i ∧ i ≤ 9223372036854775807) : Calls Tryz.prog 37 #[.pointer (some ⟨q, 0, none⟩), .int .i64 i] w fun e w' => ∃ v, e = .returned v ∧ Hid (TRow w' v (inL s.L i) ∧ (∀ k, v.ownBlock = some k → w.heap.size ≤ k) ∧ Below w.heap.size w w') := by
  obtain ⟨t, dm, M, X, HL, _⟩ := H.at'
  have c1 : w.cell? ⟨q, 1, none⟩ = some (.map (some dm)) := HL.nds.cell 1 rfl
  have hl := HL.look hb
  have HKS := hide (keys_any HL H.ok hn i)
  obtain ⟨mm, hmm⟩ : ∃ mm, mm = mapOf s M i := ⟨_, rfl⟩
  obtain ⟨pp, hpp⟩ : ∃ pp, pp = parOf s i := ⟨_, rfl⟩
  rw [← hmm, ← hpp] at hl
  rw [← hmm] at HKS
  have hfd := fld_dir pp mm
  have HK := hide (callsIn_wide.1 (Tryz.maps_Keys_56 mm w))
  clear HL H hmm hpp
  go_enter Tryz.func37, Tryz.ntmps37
  go_wp2_with fail
  refine (unhide HK).mono ?_
  rintro e w2 ⟨rfl, rfl⟩
  go_wp2_with fail
  refine (unhide HKS).mono ?_
  rintro e w3 ⟨v, rfl, h1, h2, h3⟩
  have HX := hide (And.intro h1 (And.intro h2 h3))
  clear h1 h2 h3
  go_wp2_with fail
  go_ret
  exact ⟨v, rfl, HX⟩
def listE (s : NS) (d : Int) : Int := if kdI s.T d = 0 then 23 else if kdI s.T d ≠ 2 then 25 else 0
set_option maxRecDepth 20000 in
set_option maxHeartbeats 1000000 in
theorem list_any {w : World} {f q nb n : Nat} {B : Bas} {Y : Nat → Prop} {s : NS} (H : FX w f q Y s nb n B) (hn : n ≤ 100000) (d : Int) (hb : -9223372036854775808 ≤ d ∧ d ≤ 9223372036854775807) : Calls Tryz.prog 14 #[.pointer (some ⟨f, 0, none⟩), .int .i64 d] w fun e w' => ∃ v, e = .returned (.tuple #[v, .int .i64 (listE s d)]) ∧ Hid (TRow w' v (inL s.L d) ∧ (∀ k, v.ownBlock = some k → w.heap.size ≤ k) ∧ Below w.heap.size w w') := by
  have c0 : w.cell? ⟨f, 0, none⟩ = some (.pointer (some ⟨q, 0, none⟩)) := H.blk.cell 0 rfl
  have HK := hide (nkind_any H d hb)
  have HR := hide (rising_any H.nd hn d hb)
  have HNO : Hid (kdI s.T d ≠ 2 → inL s.L d = []) := hide (in_no H.nd.ok.inv)
  unfold listE
  obtain ⟨l, hl⟩ : ∃ l, l = inL s.L d := ⟨_, rfl⟩
  rw [← hl] at HR HNO ⊢
  obtain ⟨k, hk⟩ : ∃ k, k = kdI s.T d := ⟨_, rfl⟩
  rw [← hk] at HK HNO ⊢
  clear H hk hl
  by_cases h0 : k = 0
  · subst h0
    have HX : Hid (TRow w (.slice none 0 0) l ∧ (∀ k, (Value.slice none 0 0).ownBlock = some k → w.heap.size ≤ k) ∧ Below w.heap.size w w) := hide ⟨.inl ⟨rfl, unhide HNO (by decide)⟩, fun k hk => (by cases hk), Below.refl _ _⟩
    go_enter Tryz.func14, Tryz.ntmps14
    go_wp2_with fail
    refine (unhide HK).mono ?_
    rintro e w1 ⟨rfl, hw1⟩
    subst hw1
    go_wp2_with fail
    go_ret2
    exact ⟨_, rfl, HX⟩
  · rw [if_neg h0] at HK ⊢
    by_cases h2 : k = 2
    · subst h2
      go_enter Tryz.func14, Tryz.ntmps14
      go_wp2_with fail
      refine (unhide HK).mono ?_
      rintro e w1 ⟨rfl, hw1⟩
      subst hw1
      go_wp2_with fail
      refine (unhide HR).mono ?_
      rintro e w2 ⟨v, rfl, HX⟩
      go_wp2_with fail
      go_ret2
      exact ⟨_, rfl, HX⟩
    · have HX : Hid (TRow w (.slice none 0 0) l ∧ (∀ k, (Value.slice none 0 0).ownBlock = some k → w.heap.size ≤ k) ∧ Below w.heap.size w w) := hide ⟨.inl ⟨rfl, unhide HNO h2⟩, fun k hk => (by cases hk), Below.refl _ _⟩
      rw [if_pos h2]
      have h3 : (((k : Nat) : Int) != 2) = true := by simp; omega
      clear h0 h2
      go_enter Tryz.func14, Tryz.ntmps14
      go_wp2_with fail
      refine (unhide HK).mono ?_
      rintro e w1 ⟨rfl, hw1⟩
      subst hw1
      go_wp2_with fail
      go_ret2
      exact ⟨_, rfl, HX⟩

end Go.Proofs.YtemologkibcdoaaGreatDoor

/-
  place, take, put, side.
-/
import Derived.Test.YtiaenfnjjlpknaaPpMem
import Derived.Deep.LoopGhost
import Derived.Deep.RegionHeld3
namespace Go.Proofs.Ytiaenfnjjlpknaa
open Go.RowKit

set_option maxRecDepth 20000 in
theorem place_any {w : World} {p f a z : Nat} (h : w.cell? ⟨p, 64, none⟩ = some (.int .i64 (f : Int))) (hf : f < 64) (ha : a ≤ 200) (hz : z = (f + a) % 64) : Calls Try.prog 23 #[.pointer (some ⟨p, 0, none⟩), .int .i64 (a : Int)] w fun e w' => e = .returned (.int .i64 (z : Int)) ∧ w' = w := by
  have h1 : IntKind.i64.wrap ((f : Int) + (a : Int)) = ((f + a : Nat) : Int) := by rw [IntKind.wrap_i64]; omega
  have h2 : ((f + a : Nat) : Int).tmod 64 = (z : Int) := by
    subst hz
    exact (Int.ofNat_tmod (f + a) 64).symm
  obtain ⟨y, hy⟩ : ∃ y, y = f + a := ⟨_, rfl⟩
  rw [← hy] at h1 h2
  clear hy hf ha hz
  go_enter Try.func23, Try.ntmps23
  go_wp2
  go_ret
  exact ⟨rfl, rfl⟩

/-- How far take is: k bytes are copied. -/
structure TkS (w W : World) (p f g n k : Nat) (s : List UInt8) (r t : Nat) (cs bs : Array Value) : Prop where
  rg : Rg W p f s.length s r t cs
  blk : Blk W g 5 bs
  size : bs.size = n
  each : ∀ (j : Nat) (c : UInt8), j < k → s[j]? = some c → bs[j]? = some (.int .u8 (c.toNat : Int))
  bel : Below w.heap.size w W
  far : p < w.heap.size ∧ w.heap.size ≤ g
theorem TkS.below {w W W' : World} {p f g n k r t : Nat} {s : List UInt8} {cs bs : Array Value} (H : TkS w W p f g n k s r t cs bs) (hb : Below W.heap.size W W') : TkS w W' p f g n k s r t cs bs :=
  ⟨H.rg.below hb, H.blk.below hb H.blk.lt, H.size, H.each, H.bel.trans (hb.mono H.bel.size), H.far⟩
theorem TkS.step {w W : World} {p f g n k r t : Nat} {s : List UInt8} {cs bs : Array Value} (H : TkS w W p f g n k s r t cs bs) (hk : k < n) {c : UInt8} (hc : s[k]? = some c) : TkS w (W.setCell ⟨g, k, none⟩ (.int .u8 (c.toNat : Int))) p f g n (k + 1) s r t cs (bs.setIfInBounds k (.int .u8 (c.toNat : Int))) := by
  have hg := own_set W g k (.int .u8 (c.toNat : Int))
  refine ⟨H.rg.grownS hg (by have := H.far; omega), H.blk.set _ _, by simpa using H.size, fun j d hj hd => ?_, H.bel.trans (hg.below H.bel.size (fun q e => by rw [e]; exact H.far.2)), H.far⟩
  by_cases e : j = k
  · subst e
    rw [hc] at hd
    cases hd
    rw [Array.getElem?_setIfInBounds_self_of_lt (by rw [H.size]; exact hk)]
  · rw [Array.getElem?_setIfInBounds_ne (by omega)]
    exact H.each j d (by omega) hd

set_option maxRecDepth 20000 in
set_option maxHeartbeats 1000000 in
theorem take_any (w : World) (p : Nat) (x : Pp) (n : Nat) (H : PAt w p x) (hn : n ≤ x.s.length) : Calls Try.prog 20 #[.pointer (some ⟨p, 0, none⟩), .int .i64 (n : Int)] w fun e w' => e = .returned (.string (BA (x.s.take n))) ∧ PAt w' p ⟨x.s.drop n, x.r, x.t⟩ ∧ GrownS w w' (fun k => k = p) := by
  obtain ⟨⟨h64, hlost, hr, ht⟩, f, cs, HR⟩ := H
  obtain ⟨s, r, t⟩ := x
  simp only at *
  obtain ⟨zs, hz1, hz2, mk⟩ := mk_run n (by omega)
  have mk1 := mk w
  have HS : Hid (TkS w (w.alloc (.cells zs 5)) p f w.heap.size n 0 s r t cs zs) := hide ⟨HR.below ((Below.refl _ _).alloc (Nat.le_refl _) _), Blk.new _ _ _, hz1, fun j c hj => by omega, (Below.refl _ _).alloc (Nat.le_refl _) _, HR.blk.lt, Nat.le_refl _⟩
  have hf := HR.f64
  obtain ⟨g, hg⟩ : ∃ g, g = w.heap.size := ⟨_, rfl⟩
  obtain ⟨W0, hW0⟩ : ∃ W0, W0 = w.alloc (.cells zs 5) := ⟨_, rfl⟩
  rw [← hg, ← hW0] at mk1 HS
  obtain ⟨m, hm⟩ : ∃ m, m = s.length := ⟨_, rfl⟩
  rw [← hm] at hn h64
  have HM := hide hm
  have HG := hide hg
  have HL := hide hlost
  obtain ⟨T, hT'⟩ : ∃ T, T = BA (s.take n) := ⟨_, rfl⟩
  rw [← hT']
  have HTT := hide hT'
  clear mk HR hz1 hz2 hg hW0 hm hlost hT'
  go_enter Try.func20, Try.ntmps20
  go_wp2_with fail
  go_loopw [10] (fun i wr => ∃ (k : Nat) (bs : Array Value), i = .int .i64 (k : Int) ∧ k ≤ n ∧ Hid (TkS w wr p f g n k s r t cs bs)) (fun i _ => n - (intOf i).toNat)
  case atStart => exact ⟨0, zs, rfl, Nat.zero_le _, HS⟩
  case round =>
    obtain ⟨k, bs, rfl, hk, HT⟩ := hrel
    by_cases hlt : k < n
    · obtain ⟨c, hc⟩ : ∃ c, s[k]? = some c := ⟨_, List.getElem?_eq_getElem (by have := unhide HM; omega)⟩
      obtain ⟨z, hz⟩ : ∃ z, z = (f + k) % 64 := ⟨_, rfl⟩
      have hz1 : (z : Int) < 64 := by omega
      have hz0 : (0 : Int) ≤ (z : Int) := by omega
      have hk1 : (k : Int) < (n : Int) := by omega
      have hk0 : (0 : Int) ≤ (k : Int) := by omega
      obtain ⟨vk, hvk⟩ : ∃ vk, bs[k]? = some vk := ⟨_, Array.getElem?_eq_getElem (by rw [(unhide HT).size]; exact hlt)⟩
      have HP : Hid (∀ W, Below wr.heap.size wr W → Calls Try.prog 23 #[.pointer (some ⟨p, 0, none⟩), .int .i64 (k : Int)] W fun e w' => e = .returned (.int .i64 (z : Int)) ∧ w'.cell? ⟨p, z, none⟩ = some (.int .u8 (c.toNat : Int)) ∧ (w'.setCell ⟨g, k, none⟩ (.int .u8 (c.toNat : Int))).cell? ⟨p, z, none⟩ = some (.int .u8 (c.toNat : Int)) ∧ w'.cell? ⟨g, k, none⟩ = some vk ∧ w'.frozen? ⟨g, k, none⟩ = false ∧ Hid (TkS w (w'.setCell ⟨g, k, none⟩ (.int .u8 (c.toNat : Int))) p f g n (k + 1) s r t cs (bs.setIfInBounds k (.int .u8 (c.toNat : Int))))) := hide (fun W hb => by
        have ht := (unhide HT).below hb
        refine (place_any (ht.rg.blk.cell _ ht.rg.c64) hf (by omega) hz).mono ?_
        rintro e w' ⟨h1, h2⟩
        subst h2
        have ht2 := ht.step hlt hc
        exact ⟨h1, ht.rg.at hc hz, ht2.rg.at hc hz, ht.blk.cell k hvk, ht.blk.frozen k, hide ht2⟩)
      have y0 := (unhide HT).rg.at hc hz
      clear HT HS hc hz hvk
      go_wp2_with fail
      go_region_held3 (fun w' => w'.cell? ⟨p, z, none⟩ = some (.int .u8 (c.toNat : Int))) (go_keep) (first
        | (go_at_call 23
           refine (unhide HP _ (by first | exact Below.refl _ _ | exact below_drew _ _)).mono ?_
           rintro e w5 ⟨rfl, y1, y2, y4, y3, HT5⟩))
      go_wp2
      go_roundw
      case rel => exact ⟨k + 1, _, by go_num, by omega, HT5⟩
      case measure => simp [intOf]; omega
    · have HE : Hid (k = n) := hide (by omega)
      have hk1 : ¬ (k : Int) < (n : Int) := by omega
      obtain ⟨z, hz⟩ : ∃ z, z = (f + n) % 64 := ⟨_, rfl⟩
      obtain ⟨d, hd⟩ : ∃ d, d = m - n := ⟨_, rfl⟩
      have hwr : IntKind.i64.wrap ((m : Int) - (n : Int)) = (d : Int) := by rw [IntKind.wrap_i64]; omega
      have hT := unhide HT
      have HP := hide (place_any (hT.rg.blk.cell _ hT.rg.c64) hf (by omega) hz)
      have r1 := hT.rg.set64 (f' := z) (by omega) (show Ring cs z (s.drop n) by rw [hz]; exact hT.rg.ring.drop n)
      have r2 := r1.set65 d
      have c65 := r1.blk.cell _ r1.c65
      rw [← unhide HM] at c65
      have f64 := hT.rg.blk.frozen 64
      have c64 := hT.rg.blk.cell _ hT.rg.c64
      have f65 := r1.blk.frozen 65
      have g2 := (own_set wr p 64 (.int .i64 (z : Int))).trans (own_set (wr.setCell ⟨p, 64, none⟩ (.int .i64 (z : Int))) p 65 (.int .i64 (d : Int)))
      have hne : ¬ g = p := by have := hT.far; omega
      have hcv := cv_run _ g n _ (s.take n) (by rw [List.length_take]; have := unhide HM; omega) (hT.blk.grownS g2 hne) (fun j c hc => by
        have hj := (List.getElem?_eq_some_iff.1 hc).1
        rw [List.length_take] at hj
        rw [List.getElem?_take, if_pos (by omega)] at hc
        exact hT.each j c (by have := unhide HE; omega) hc)
      have HR : Hid (PAt ((wr.setCell ⟨p, 64, none⟩ (.int .i64 (z : Int))).setCell ⟨p, 65, none⟩ (.int .i64 (d : Int))) p ⟨s.drop n, r, t⟩ ∧ GrownS w ((wr.setCell ⟨p, 64, none⟩ (.int .i64 (z : Int))).setCell ⟨p, 65, none⟩ (.int .i64 (d : Int))) (fun k => k = p)) := hide (by
        have e : d = (s.drop n).length := by rw [List.length_drop, ← unhide HM, hd]
        exact ⟨PAt.of (x := ⟨s.drop n, r, t⟩) ⟨by show (s.drop n).length ≤ 64; omega, fun e => by rw [show s = [] from unhide HL e]; exact List.drop_nil, hr, ht⟩ r2 e, (grownS_of_below hT.bel).trans g2⟩)
      rw [← unhide HTT] at hcv
      clear hT r1 r2 g2 hne hd hz HT HS
      go_wp2_with fail
      refine (unhide HP).mono ?_
      rintro e w5 ⟨rfl, hw5⟩
      rw [show w5 = wr from hw5]
      clear hw5
      go_wp2
      go_ret
      exact ⟨rfl, unhide HR⟩

/-- How far put is: k bytes are written. -/
structure PuS (w W : World) (p f k : Nat) (s d : List UInt8) (r t : Nat) (cs : Array Value) : Prop where
  rg : Rg W p f s.length (s ++ d.take k) r t cs
  gr : GrownS w W (fun q => q = p)
theorem PuS.below {w W W' : World} {p f k r t : Nat} {s d : List UInt8} {cs : Array Value} (H : PuS w W p f k s d r t cs) (hb : Below W.heap.size W W') : PuS w W' p f k s d r t cs :=
  ⟨H.rg.below hb, H.gr.trans (grownS_of_below hb)⟩
theorem PuS.step {w W : World} {p f k r t : Nat} {s d : List UInt8} {cs : Array Value} (H : PuS w W p f k s d r t cs) (hl : s.length + d.length ≤ 64) {c : UInt8} (hc : d[k]? = some c) {z : Nat} (hz : z = (f + (s.length + k)) % 64) : PuS w (W.setCell ⟨p, z, none⟩ (.int .u8 (c.toNat : Int))) p f (k + 1) s d r t (cs.setIfInBounds z (.int .u8 (c.toNat : Int))) := by
  have hk := (List.getElem?_eq_some_iff.1 hc).1
  have e : d.take (k + 1) = d.take k ++ [c] := by rw [List.take_add_one, hc]; rfl
  have hlen : (s ++ d.take k).length = s.length + k := by rw [List.length_append, List.length_take]; omega
  refine ⟨?_, H.gr.trans (own_set W p z _)⟩
  rw [e, ← List.append_assoc]
  exact H.rg.setR (by omega) c (by rw [hlen]; exact hz)

set_option maxRecDepth 20000 in
set_option maxHeartbeats 1000000 in
theorem put_any (w : World) (p : Nat) (x : Pp) (d : List UInt8) (H : PAt w p x) (hn : x.s.length + d.length ≤ 64) (h0 : x.r ≠ 0) : Calls Try.prog 21 #[.pointer (some ⟨p, 0, none⟩), .string (BA d)] w fun e w' => e = .returned (.tuple #[]) ∧ PAt w' p ⟨x.s ++ d, x.r, x.t⟩ ∧ GrownS w w' (fun k => k = p) := by
  obtain ⟨⟨h64, hlost, hr, ht⟩, f, cs, HR⟩ := H
  obtain ⟨s, r, t⟩ := x
  simp only at *
  have HS : Hid (PuS w w p f 0 s d r t cs) := hide ⟨by simpa using HR, grownS_of_below (Below.refl _ _)⟩
  have hf := HR.f64
  obtain ⟨m, hm⟩ : ∃ m, m = s.length := ⟨_, rfl⟩
  obtain ⟨n, hn2⟩ : ∃ n, n = d.length := ⟨_, rfl⟩
  rw [← hm, ← hn2] at hn
  obtain ⟨D, hD⟩ : ∃ D, D = BA d := ⟨_, rfl⟩
  have hDs : D.size = n := by rw [hD, hn2]; rfl
  rw [← hD]
  have HM := hide hm
  have HN := hide hn2
  have HD := hide hD
  have H0 := hide h0
  clear HR hm hlost h64 hn2 hD h0
  go_enter Try.func21, Try.ntmps21
  go_wp2_with fail
  go_loopw [7] (fun i wr => ∃ (k : Nat) (bs : Array Value), i = .int .i64 (k : Int) ∧ k ≤ n ∧ Hid (PuS w wr p f k s d r t bs)) (fun i _ => n - (intOf i).toNat)
  case atStart => exact ⟨0, cs, rfl, Nat.zero_le _, HS⟩
  case round =>
    obtain ⟨k, bs, rfl, hk, HT⟩ := hrel
    by_cases hlt : k < n
    · obtain ⟨c, hc⟩ : ∃ c, d[k]? = some c := ⟨_, List.getElem?_eq_getElem (by have := unhide HN; omega)⟩
      obtain ⟨z, hz⟩ : ∃ z, z = (f + (m + k)) % 64 := ⟨_, rfl⟩
      have hz1 : (z : Int) < 64 := by omega
      have hz0 : (0 : Int) ≤ (z : Int) := by omega
      have hk1 : (k : Int) < (n : Int) := by omega
      have hk0 : (0 : Int) ≤ (k : Int) := by omega
      have hwr : IntKind.i64.wrap ((m : Int) + (k : Int)) = ((m + k : Nat) : Int) := by rw [IntKind.wrap_i64]; omega
      obtain ⟨mk, hmk⟩ : ∃ mk, mk = m + k := ⟨_, rfl⟩
      rw [← hmk] at hwr hz
      have hDc : D[k]'(by omega) = c := by
        have h1 := unhide HD
        subst h1
        show d[k] = c
        exact (List.getElem?_eq_some_iff.1 hc).2
      obtain ⟨vk, hvk⟩ : ∃ vk, bs[z]? = some vk := ⟨_, Array.getElem?_eq_getElem (by rw [(unhide HT).rg.size]; omega)⟩
      have HP : Hid (∀ W, Below wr.heap.size wr W → Calls Try.prog 23 #[.pointer (some ⟨p, 0, none⟩), .int .i64 (mk : Int)] W fun e w' => e = .returned (.int .i64 (z : Int)) ∧ w'.cell? ⟨p, 65, none⟩ = some (.int .i64 (m : Int)) ∧ (w'.setCell ⟨p, z, none⟩ (.int .u8 (c.toNat : Int))).cell? ⟨p, 65, none⟩ = some (.int .i64 (m : Int)) ∧ w'.cell? ⟨p, z, none⟩ = some vk ∧ w'.frozen? ⟨p, z, none⟩ = false ∧ Hid (PuS w (w'.setCell ⟨p, z, none⟩ (.int .u8 (c.toNat : Int))) p f (k + 1) s d r t (bs.setIfInBounds z (.int .u8 (c.toNat : Int))))) := hide (fun W hb => by
        have ht := (unhide HT).below hb
        refine (place_any (ht.rg.blk.cell _ ht.rg.c64) hf (by omega) hz).mono ?_
        rintro e w' ⟨h1, h2⟩
        subst h2
        have h3 := unhide HM
        have h4 := unhide HN
        have ht2 := ht.step (by omega) hc (z := z) (by omega)
        exact ⟨h1, by rw [h3]; exact ht.rg.blk.cell _ ht.rg.c65, by rw [h3]; exact ht2.rg.blk.cell _ ht2.rg.c65, ht.rg.blk.cell z hvk, ht.rg.blk.frozen z, hide ht2⟩)
      have y0 : wr.cell? ⟨p, 65, none⟩ = some (.int .i64 (m : Int)) := by rw [unhide HM]; exact (unhide HT).rg.blk.cell _ (unhide HT).rg.c65
      clear HT HS hc hmk hz hvk
      go_wp2_with fail
      go_region_held3 (fun w' => w'.cell? ⟨p, 65, none⟩ = some (.int .i64 (m : Int))) (go_keep) (first
        | (go_at_call 23
           refine (unhide HP _ (by first | exact Below.refl _ _ | exact below_drew _ _)).mono ?_
           rintro e w5 ⟨rfl, y1, y2, y4, y3, HT5⟩))
      go_wp2
      all_goals
        refine ⟨⟨k + 1, _, by go_num, by omega, HT5⟩, ?_⟩
        simp [intOf]
        omega
    · have HE : Hid (k = n) := hide (by omega)
      have hk1 : ¬ (k : Int) < (n : Int) := by omega
      have hwr : IntKind.i64.wrap ((m : Int) + (n : Int)) = ((m + n : Nat) : Int) := by rw [IntKind.wrap_i64]; omega
      obtain ⟨mn, hmn⟩ : ∃ mn, mn = m + n := ⟨_, rfl⟩
      rw [← hmn] at hwr
      have hT := unhide HT
      have e : d.take k = d := List.take_of_length_le (by have := unhide HN; have := unhide HE; omega)
      have r1 := hT.rg.set65 mn
      rw [e] at r1
      have c65 := hT.rg.blk.cell _ hT.rg.c65
      rw [← unhide HM] at c65
      have f65 := hT.rg.blk.frozen 65
      have HR : Hid (PAt (wr.setCell ⟨p, 65, none⟩ (.int .i64 (mn : Int))) p ⟨s ++ d, r, t⟩ ∧ GrownS w (wr.setCell ⟨p, 65, none⟩ (.int .i64 (mn : Int))) (fun k => k = p)) := hide (by
        have el : mn = (s ++ d).length := by rw [List.length_append, ← unhide HM, ← unhide HN, hmn]
        exact ⟨PAt.of (x := ⟨s ++ d, r, t⟩) ⟨by show (s ++ d).length ≤ 64; omega, fun e => absurd e (unhide H0), hr, ht⟩ r1 el, hT.gr.trans (own_set wr p 65 _)⟩)
      clear hT r1 hmn HT HS
      go_wp2
      refine bodyPost_end (res0 rfl _ _) rfl ?_
      exact ⟨rfl, unhide HR⟩

end Go.Proofs.Ytiaenfnjjlpknaa

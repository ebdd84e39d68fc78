/-
  Package vars: a parameter that is a number; the chapter's examples.
-/
import Derived.Test.YtbcbnoeplapblaaGreatDoorVDo
import Derived.Test.YtbcbnoeplapblaaGreatDoorVNum
namespace Go.Proofs.YtbcbnoeplapblaaGreatDoor
open Go.RowKit Go.Maps

theorem BA_toList (l : List UInt8) : (BA l).toList = l := by rw [ByteArray.toList_eq]; rfl
theorem lst_no {l m : List UInt8} (h : l ≠ m) : ((BA l).toList == m) = false := by rw [BA_toList]; simpa using h
/-- The argument whose number digits are. -/
def nmbS (s : VSt) (p : List UInt8) : List UInt8 × Bool :=
  if p = [48] then (s.zero, true)
  else if numberE (BA p) s.args.length ≠ 0 ∨ p.head? = some 48 then ([], false)
  else (s.args.getD (numberV (BA p) s.args.length - 1).toNat [], true)
set_option maxRecDepth 20000 in
set_option maxHeartbeats 4000000 in
theorem numbered_any (b : Nat) (X : Nat → Prop) (s : VSt) (p : List UInt8) (w : World) (h : VAt w b X s) (hp : p.length ≤ 100000) (hl : s.args.length ≤ 1000000) :
    Calls Tryz.prog 42 #[.pointer (some ⟨b, 0, none⟩), .string (BA p)] w fun e w' => e = .returned (.tuple #[.string (BA (nmbS s p).1), .bool (nmbS s p).2]) ∧ w' = w := by
  obtain ⟨u, m, hb, hau, _⟩ := h
  have c0 : w.cell? ⟨b, 0, none⟩ = some (.string (BA s.zero)) := hb.cell 0 rfl
  have c1 : w.cell? ⟨b, 1, none⟩ = some u := hb.cell 1 rfl
  have HAU := hide hau
  obtain ⟨ad, cap, hu, hcap, hcm⟩ := hau.len
  subst hu
  clear hb hau
  unfold nmbS
  by_cases h0 : p = [48]
  · subst h0
    rw [if_pos rfl]
    have h48 : ((BA [48]).toList == [48]) = true := by rw [BA_toList]; rfl
    go_enter Tryz.func42, Tryz.ntmps42
    go_wp2
    go_ret2
    exact ⟨rfl, rfl⟩
  rw [if_neg h0]
  have h48 := lst_no h0
  have HN := hide (number_any (BA p) s.args.length w (by rw [BA_size]; exact hp) (by omega) (by omega))
  have HRG : Hid (numberE (BA p) s.args.length = 0 → p.head? ≠ some 48 → 1 ≤ numberV (BA p) s.args.length ∧ numberV (BA p) s.args.length ≤ s.args.length ∧ p ≠ []) := hide (fun a c => number_range (by omega) a c)
  have HNE : Hid (numberE (BA p) s.args.length = 0 → p ≠ []) := hide (fun a e => by
    rw [e] at a
    unfold numberE at a
    rw [if_pos (.inl rfl)] at a
    cases a)
  obtain ⟨ev, hev⟩ : ∃ x, x = numberE (BA p) s.args.length := ⟨_, rfl⟩
  obtain ⟨nv, hnv⟩ : ∃ x, x = numberV (BA p) s.args.length := ⟨_, rfl⟩
  rw [← hev, ← hnv] at HN HRG
  rw [← hev] at HNE
  rw [← hev, ← hnv]
  obtain ⟨len, hlen⟩ : ∃ n, n = s.args.length := ⟨_, rfl⟩
  have HLEN := hide hlen
  rw [← hlen] at c1 hl hcap HN HRG HAU
  clear hev hnv hlen h0
  by_cases he : ev = 0
  · subst he
    obtain ⟨c, r, hcr⟩ : ∃ c r, p = c :: r := by
      cases p with
      | nil => exact absurd rfl (unhide HNE rfl)
      | cons c r => exact ⟨c, r, rfl⟩
    subst hcr
    have hpos : 0 < (BA (c :: r)).size := by simp
    have hg0 : (BA (c :: r))[0] = c := rfl
    by_cases hc : c = 48
    · subst hc
      rw [if_pos (.inr rfl)]
      have hq : ((BA ((48 : UInt8) :: r))[0].toNat : Int) = 48 := by rw [hg0]; rfl
      clear HRG HNE hg0
      go_enter Tryz.func42, Tryz.ntmps42
      go_wp2_with fail
      refine (unhide HN).mono ?_
      rintro e w1 ⟨rfl, rfl⟩
      go_wp2
      go_ret2
      exact ⟨rfl, rfl⟩
    · have hh : ¬ (¬ (0 : Int) = 0 ∨ (c :: r).head? = some 48) := by
        rintro (h | h)
        · exact h rfl
        · simp at h; exact hc h
      rw [if_neg hh]
      obtain ⟨h1, h2, _⟩ := unhide HRG rfl (fun e => hh (.inr e))
      have hq : ¬ ((BA (c :: r))[0].toNat : Int) = 48 := by
        rw [hg0]
        intro e
        exact hc (UInt8.toNat_inj.1 (by simpa using Int.ofNat.inj e))
      obtain ⟨j, rfl⟩ : ∃ j : Nat, nv = (j : Int) + 1 := ⟨(nv - 1).toNat, by omega⟩
      have hjn : j < len := by omega
      obtain ⟨x, hx⟩ : ∃ x, s.args[j]? = some x := ⟨_, List.getElem?_eq_getElem (by have := unhide HLEN; omega)⟩
      have hgd : s.args.getD ((j : Int) + 1 - 1).toNat [] = x := by
        rw [show ((j : Int) + 1 - 1).toNat = j by omega]
        simp [List.getD, hx]
      rw [hgd]
      have hga : ∃ g o, ad = some ⟨g, o, none⟩ := by
        rcases unhide HAU with ⟨h, h'⟩ | ⟨g, o, cap', cs, h, _⟩
        · rw [h'] at hx; simp at hx
        · injection h with h1; exact ⟨g, o, h1⟩
      obtain ⟨g, o, rfl⟩ := hga
      have cx := (unhide HAU).cell hx
      have hw1 : IntKind.i64.wrap ((j : Int) + 1 - 1) = (j : Int) := by rw [IntKind.wrap_i64]; omega
      have hj0 : (0 : Int) ≤ (j : Int) := by omega
      have hj1 : (j : Int) < (len : Int) := by omega
      clear HRG HNE hg0 hh hc h1 h2 hx hgd HAU
      go_enter Tryz.func42, Tryz.ntmps42
      go_wp2_with fail
      refine (unhide HN).mono ?_
      rintro e w1 ⟨rfl, rfl⟩
      go_wp2
      go_ret2
      exact ⟨rfl, rfl⟩
  · rw [if_pos (.inl he)]
    have hne : (ev != 0) = true := by simpa using he
    clear HRG HNE
    go_enter Tryz.func42, Tryz.ntmps42
    go_wp2_with fail
    refine (unhide HN).mono ?_
    rintro e w1 ⟨rfl, rfl⟩
    go_wp2
    go_ret2
    exact ⟨rfl, rfl⟩
set_option maxRecDepth 20000 in
set_option maxHeartbeats 4000000 in
theorem param_num (b : Nat) (X : Nat → Prop) (s : VSt) (p : List UInt8) (w : World) (h : VAt w b X s) (hp : p.length ≤ 100000) (hl : s.args.length ≤ 1000000) (h35 : p ≠ [35]) (h63 : p ≠ [63]) (h64 : p ≠ [64]) (h42 : p ≠ [42]) (hn : namL p = false) :
    Calls Tryz.prog 20 #[.pointer (some ⟨b, 0, none⟩), .string (BA p)] w fun e w' => e = .returned (.tuple #[.string (BA (nmbS s p).1), .bool (nmbS s p).2]) ∧ w' = w := by
  have HC := hide (numbered_any b X s p w h hp hl)
  have HN := hide (name_any p w hp)
  rw [hn] at HN
  have q1 := lst_no h35
  have q2 := lst_no h63
  have q3 := lst_no h64
  have q4 := lst_no h42
  obtain ⟨R, hR⟩ : ∃ R, R = nmbS s p := ⟨_, rfl⟩
  rw [← hR] at HC ⊢
  clear h h35 h63 h64 h42 hn hR
  go_enter Tryz.func20, Tryz.ntmps20
  go_wp2_with fail
  refine (unhide HN).mono ?_
  rintro e w1 ⟨rfl, rfl⟩
  go_wp2_with fail
  refine (unhide HC).mono ?_
  rintro e w1 ⟨rfl, rfl⟩
  go_wp2
  go_ret2
  exact ⟨rfl, rfl⟩
set_option maxHeartbeats 1000000 in
theorem param_nil (p : ByteArray) (w : World) : Calls Tryz.prog 20 #[.pointer none, .string p] w fun e w' => e = .returned (.tuple #[.string ⟨#[]⟩, .bool false]) ∧ w' = w := by
  go_enter Tryz.func20, Tryz.ntmps20
  go_wp2
  go_ret2
  exact ⟨rfl, rfl⟩

theorem ab_in (w : World) : AIn (w.alloc (.cells #[.string ⟨#[97]⟩, .string ⟨#[98]⟩] 9)) (.slice (some ⟨w.heap.size, 0, none⟩) 2 2) [[97], [98]] := by
  refine ⟨_, _, rfl, by decide, .inr ⟨_, _, rfl, by simp, fun i x hi => ?_⟩⟩
  have hb := Blk.new w 9 #[.string ⟨#[97]⟩, .string ⟨#[98]⟩]
  match i, hi with
  | 0, hi => simp at hi; subst hi; exact hb.cell 0 rfl
  | 1, hi => simp at hi; subst hi; exact hb.cell 1 rfl
def aw0 : VSt := ⟨[115, 104], [[97], [98]], [], 0⟩
def aw1 : VSt := (setS aw0 [120] [49]).1
def aw2 : VSt := (rdoS aw1 [120]).1
def aw3 : VSt := (setS aw2 [120] [50]).1
def aw4 : VSt := (shfS aw3 3).1
def aw5 : VSt := (shfS aw4 1).1
set_option maxRecDepth 20000 in
set_option maxHeartbeats 4000000 in
/-- The chapter's examples. -/
theorem awake_any (w : World) : Calls Tryz.prog 6 #[] w fun e w' => e = .returned (.bool true) ∧ Below w.heap.size w w' := by
  obtain ⟨X, hXd⟩ : ∃ X : Nat → Prop, X = fun k => w.heap.size ≤ k := ⟨_, rfl⟩
  have hbX : ∀ W W', Below w.heap.size w W → GrownS W W' X → Below w.heap.size w W' := fun W W' h1 h2 => h1.trans (h2.below h1.size (fun k hk => by rw [hXd] at hk; exact hk))
  have hcl : ∀ W, Below w.heap.size w W → ∀ k, W.heap.size ≤ k → X k := fun W h k hk => by rw [hXd]; exact Nat.le_trans h.size hk
  have HNEW : Hid (Calls Tryz.prog 7 #[.string ⟨#[115, 104]⟩, .slice (some ⟨w.heap.size, 0, none⟩) 2 2] (w.alloc (.cells #[.string ⟨#[97]⟩, .string ⟨#[98]⟩] 9)) fun e w' => ∃ b, e = .returned (.pointer (some ⟨b, 0, none⟩)) ∧ VAt w' b X aw0 ∧ Below w.heap.size w w') := hide (by
    refine (new_any [115, 104] _ [[97], [98]] _ (ab_in w) (by decide)).mono ?_
    rintro e w' ⟨h1, h2, h3⟩
    exact ⟨_, h1, h2.mono (fun k hk => by rw [hXd]; simp at hk; omega), ((Below.refl _ w).alloc (Nat.le_refl _) _).trans (h3.mono (by simp))⟩)
  have HPAR : Hid (∀ b W, VAt W b X aw0 → Calls Tryz.prog 20 #[.pointer (some ⟨b, 0, none⟩), .string ⟨#[49]⟩] W fun e w' => e = .returned (.tuple #[.string ⟨#[97]⟩, .bool true]) ∧ w' = W) := hide (fun b W h => by
    have := param_num b X aw0 [49] W h (by decide) (by decide) (by decide) (by decide) (by decide) (by decide) (by kernel_rfl)
    rwa [show nmbS aw0 [49] = ([97], true) by kernel_rfl] at this)
  have HPAR3 : Hid (∀ b W, VAt W b X aw0 → Calls Tryz.prog 20 #[.pointer (some ⟨b, 0, none⟩), .string ⟨#[51]⟩] W fun e w' => e = .returned (.tuple #[.string ⟨#[]⟩, .bool false]) ∧ w' = W) := hide (fun b W h => by
    have := param_num b X aw0 [51] W h (by decide) (by decide) (by decide) (by decide) (by decide) (by decide) (by kernel_rfl)
    rwa [show nmbS aw0 [51] = ([], false) by kernel_rfl] at this)
  have HS1 : Hid (∀ b W, VAt W b X aw0 → Below w.heap.size w W → Calls Tryz.prog 21 #[.pointer (some ⟨b, 0, none⟩), .string ⟨#[120]⟩, .string ⟨#[49]⟩] W fun e w' => e = .returned (.int .i64 0) ∧ VAt w' b X aw1 ∧ Below w.heap.size w w') := hide (fun b W h hW => by
    have := set_any b X aw0 [120] [49] W (hcl W hW) h (by decide) (by decide)
    rw [show (setS aw0 [120] [49]).2 = 0 by kernel_rfl] at this
    exact this.mono (fun e w' ⟨h1, h2, h3⟩ => ⟨h1, h2, hbX W w' hW h3⟩))
  have HR1 : Hid (∀ b W, VAt W b X aw1 → Below w.heap.size w W → Calls Tryz.prog 22 #[.pointer (some ⟨b, 0, none⟩), .string ⟨#[120]⟩] W fun e w' => e = .returned (.int .i64 0) ∧ VAt w' b X aw2 ∧ Below w.heap.size w w') := hide (fun b W h hW => by
    have := readonly_any b X aw1 [120] W (hcl W hW) h (by decide) (by rw [show aw1.L.length = 1 by kernel_rfl]; decide)
    rw [show (rdoS aw1 [120]).2 = 0 by kernel_rfl] at this
    exact this.mono (fun e w' ⟨h1, h2, h3⟩ => ⟨h1, h2, hbX W w' hW h3⟩))
  have HS2 : Hid (∀ b W, VAt W b X aw2 → Below w.heap.size w W → Calls Tryz.prog 21 #[.pointer (some ⟨b, 0, none⟩), .string ⟨#[120]⟩, .string ⟨#[50]⟩] W fun e w' => e = .returned (.int .i64 15) ∧ VAt w' b X aw3 ∧ Below w.heap.size w w') := hide (fun b W h hW => by
    have := set_any b X aw2 [120] [50] W (hcl W hW) h (by decide) (by rw [show aw2.L.length = 1 by kernel_rfl]; decide)
    rw [show (setS aw2 [120] [50]).2 = 15 by kernel_rfl] at this
    exact this.mono (fun e w' ⟨h1, h2, h3⟩ => ⟨h1, h2, hbX W w' hW h3⟩))
  have HG1 : Hid (∀ b W, VAt W b X aw3 → Calls Tryz.prog 10 #[.pointer (some ⟨b, 0, none⟩), .string ⟨#[120]⟩] W fun e w' => e = .returned (.tuple #[.string ⟨#[49]⟩, .bool true]) ∧ Below W.heap.size W w') := hide (fun b W h => by
    have := get_any b X aw3 [120] W h (by decide)
    rwa [show getL aw3.L [120] = ⟨[120], [49], true, false, true⟩ by kernel_rfl] at this)
  have HF1 : Hid (∀ b W, VAt W b X aw3 → Below w.heap.size w W → Calls Tryz.prog 23 #[.pointer (some ⟨b, 0, none⟩), .int .i64 3] W fun e w' => e = .returned (.int .i64 1) ∧ VAt w' b X aw4 ∧ Below w.heap.size w w') := hide (fun b W h hW => by
    have := shift_any b X aw3 3 W h (by rw [show aw3.args.length = 2 by kernel_rfl]; decide)
    rw [show (shfS aw3 3).2 = 1 by kernel_rfl] at this
    exact this.mono (fun e w' ⟨h1, h2, h3⟩ => ⟨h1, h2, hbX W w' hW h3⟩))
  have HF2 : Hid (∀ b W, VAt W b X aw4 → Below w.heap.size w W → Calls Tryz.prog 23 #[.pointer (some ⟨b, 0, none⟩), .int .i64 1] W fun e w' => e = .returned (.int .i64 0) ∧ VAt w' b X aw5 ∧ Below w.heap.size w w') := hide (fun b W h hW => by
    have := shift_any b X aw4 1 W h (by rw [show aw4.args.length = 2 by kernel_rfl]; decide)
    rw [show (shfS aw4 1).2 = 0 by kernel_rfl] at this
    exact this.mono (fun e w' ⟨h1, h2, h3⟩ => ⟨h1, h2, hbX W w' hW h3⟩))
  have HA1 : Hid (∀ b W, VAt W b X aw5 → Below w.heap.size w W → Calls Tryz.prog 19 #[.pointer (some ⟨b, 0, none⟩)] W fun e w' => ∃ g o cap, e = .returned (.slice (some ⟨g, o, none⟩) 1 cap) ∧ w'.cell? ⟨g, o, none⟩ = some (.string ⟨#[98]⟩) ∧ Below w.heap.size w w') := hide (fun b W h hW => by
    have := args_any b X aw5 W h (by rw [show aw5.args.length = 1 by kernel_rfl]; decide)
    rw [show aw5.args = [[98]] by kernel_rfl] at this
    refine this.mono ?_
    rintro e w' ⟨v', rfl, ha, _, hb⟩
    have ha' := ha
    rcases ha with ⟨_, h⟩ | ⟨g, o, cap, cs, rfl, _⟩
    · cases h
    · exact ⟨g, o, cap, rfl, ha'.cell (i := 0) rfl, hW.trans (hb.mono hW.size)⟩)
  clear hbX hcl hXd
  go_enter Tryz.func6, Tryz.ntmps6
  go_wp2_with fail
  refine (unhide HNEW).mono ?_
  rintro e w1 ⟨b, rfl, v1, b1⟩
  have V := hide v1
  have B := hide b1
  clear v1 b1 HNEW
  go_wp2_with fail
  refine (unhide HPAR _ _ (unhide V)).mono ?_
  rintro e w2 ⟨rfl, rfl⟩
  go_wp2_with fail
  refine (unhide HPAR3 _ _ (unhide V)).mono ?_
  rintro e w3 ⟨rfl, rfl⟩
  go_wp2_with fail
  refine (unhide HS1 _ _ (unhide V) (unhide B)).mono ?_
  clear V B
  rintro e w4 ⟨rfl, v4, b4⟩
  have V := hide v4
  have B := hide b4
  clear v4 b4
  go_wp2_with fail
  refine (unhide HR1 _ _ (unhide V) (unhide B)).mono ?_
  clear V B
  rintro e w4 ⟨rfl, v4, b4⟩
  have V := hide v4
  have B := hide b4
  clear v4 b4
  go_wp2_with fail
  refine (unhide HS2 _ _ (unhide V) (unhide B)).mono ?_
  clear V B
  rintro e w4 ⟨rfl, v4, b4⟩
  have V := hide v4
  have B := hide b4
  clear v4 b4
  go_wp2_with fail
  refine (unhide HG1 _ _ (unhide V)).mono ?_
  rintro e w5 ⟨rfl, b5⟩
  have V2 := hide ((unhide V).below b5)
  have B2 := hide ((unhide B).trans (b5.mono (unhide B).size))
  clear V B b5
  have V := V2
  have B := B2
  clear V2 B2
  go_wp2_with fail
  refine (unhide HF1 _ _ (unhide V) (unhide B)).mono ?_
  clear V B
  rintro e w4 ⟨rfl, v4, b4⟩
  have V := hide v4
  have B := hide b4
  clear v4 b4
  go_wp2_with fail
  refine (unhide HF2 _ _ (unhide V) (unhide B)).mono ?_
  clear V B
  rintro e w4 ⟨rfl, v4, b4⟩
  have V := hide v4
  have B := hide b4
  clear v4 b4
  go_wp2_with fail
  refine (unhide HA1 _ _ (unhide V) (unhide B)).mono ?_
  clear V B
  rintro e w6 ⟨g, o, cap, rfl, c6, b6⟩
  have B := hide b6
  clear b6
  go_wp2
  go_ret
  exact ⟨rfl, unhide B⟩

end Go.Proofs.YtbcbnoeplapblaaGreatDoor

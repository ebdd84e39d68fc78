/-
  The law VarsCopies walked.
-/
import Derived.Test.YtbcbnoeplapblaaDoorVKeeps
import Derived.Test.YtbcbnoeplapblaaDoorVCopy
namespace Go.Proofs.YtbcbnoeplapblaaDoor
open Go.RowKit Go.Maps

theorem a_in (w : World) : AIn (w.alloc (.cells #[.string ⟨#[97]⟩] 9)) (.slice (some ⟨w.heap.size, 0, none⟩) 1 1) [[97]] := by
  refine ⟨_, _, rfl, by decide, .inr ⟨_, _, rfl, by simp, fun i x hi => ?_⟩⟩
  have hb := Blk.new w 9 #[.string ⟨#[97]⟩]
  match i, hi with
  | 0, hi => simp at hi; subst hi; exact hb.cell 0 rfl
theorem step_zero (s : VSt) (o : OpP) : (stepS s o).1.zero = s.zero := by
  unfold stepS unsS expS rdoS shfS setS
  repeat' split
  all_goals rfl
/-- A text of a row is another one then. -/
theorem AOwn.at_set {w : World} {ad : Option Addr} {n cap k : Nat} {l : List (List UInt8)} (h : AOwn w (.slice ad n cap) l) (hl : l.length = n) (hk : k < n) : ∃ g o, ad = some ⟨g, o, none⟩ ∧ (∃ x, w.cell? ⟨g, o + k, none⟩ = some (.string x)) ∧ w.frozen? ⟨g, o + k, none⟩ = false ∧ ∀ y, (l.set k y).length = l.length ∧ AOwn (w.setCell ⟨g, o + k, none⟩ (.string (BA y))) (.slice ad n cap) (l.set k y) := by
  rcases h with ⟨h, h'⟩ | ⟨g, o, cap', cs, h, h1, h2, hg, hsz, hc⟩
  · rw [h'] at hl
    simp at hl
    omega
  · injection h with e1 e2 e3
    subst e3
    refine ⟨g, o, e1, ⟨BA (l[k]'(by omega)), ?_⟩, ?_, fun y => ⟨by simp, .inr ⟨g, o, cap, cs.setIfInBounds (o + k) (.string (BA y)), ?_, by simpa using h1, h2, ?_, by simpa using hsz, fun i x hi => ?_⟩⟩⟩
    · simp only [World.cell?, hg]
      exact hc k _ (List.getElem?_eq_getElem (by omega))
    · simp [World.frozen?, hg]
    · rw [e1, List.length_set, hl]
    · exact Blk.set (show Blk w g 9 cs from hg) (o + k) _
    · rw [List.getElem?_set] at hi
      by_cases hik : k = i
      · subst hik
        rw [if_pos rfl] at hi
        split at hi
        · injection hi with hi
          rw [← hi]
          show (cs.setIfInBounds (o + k) (Value.string (BA y)))[o + k]? = some (.string (BA y))
          rw [Array.getElem?_setIfInBounds_self_of_lt (by omega)]
        · cases hi
      · rw [if_neg hik] at hi
        rw [Array.getElem?_setIfInBounds_ne (by omega)]
        exact hc i x hi
set_option maxRecDepth 20000 in
set_option maxHeartbeats 40000000 in
theorem copies_walk (v0 v1 : Value) (L0 L1 : List OpP) (other : Bool) (w : World) (h0 : OpsAt w v0 L0) (h1 : OpsAt w v1 L1) :
    Calls Tryd.prog 6 #[v0, v1, .bool other] w fun e w' => e = .returned (.bool true) ∧ Below w.heap.size w w' := by
  have HAW : Hid (∀ W, Below w.heap.size w W → Calls Tryd.prog 9 #[] W fun e w' => e = .returned (.bool true) ∧ Below w.heap.size w w') := hide (fun W hW => (awake_any W).mono (fun e w' ⟨h1, h2⟩ => ⟨h1, hW.trans (h2.mono hW.size)⟩))
  have HF0 : Hid (Calls Tryd.prog 8 #[v0] w fun e w' => e = .returned (.bool (fwB L0)) ∧ w' = w) := hide (few_any v0 L0 w h0)
  have HF1 : Hid (Calls Tryd.prog 8 #[v1] w fun e w' => e = .returned (.bool (fwB L1)) ∧ w' = w) := hide (few_any v1 L1 w h1)
  have HH0 := hide h0
  have HH1 := hide h1
  obtain ⟨ad0, cap0, rfl, hm0, _⟩ := h0
  obtain ⟨ad1, cap1, rfl, hm1, _⟩ := h1
  obtain ⟨n0, hn0⟩ : ∃ n, n = L0.length := ⟨_, rfl⟩
  obtain ⟨n1, hn1⟩ : ∃ n, n = L1.length := ⟨_, rfl⟩
  have HN0 := hide hn0
  have HN1 := hide hn1
  rw [← hn0] at hm0 HF0 HH0
  rw [← hn1] at hm1 HF1 HH1
  rw [← hn0, ← hn1]
  rw [max63] at hm0 hm1
  clear hn0 hn1
  cases hfb0 : fwB L0 with
  | false =>
    rw [hfb0] at HF0
    clear hfb0 HH0 HH1 HN0 HN1
    go_enter Tryd.func6, Tryd.ntmps6
    go_wp2_with fail
    refine (unhide HF0).mono ?_
    rintro e w1 ⟨rfl, hw1⟩
    rw [show w1 = w from hw1]
    clear hw1
    go_wp2_with fail
    refine (unhide HAW _ (Below.refl _ _)).mono ?_
    rintro e w2 ⟨rfl, b2⟩
    have HB2 := hide b2
    clear b2
    go_wp2
    go_ret
    exact ⟨rfl, unhide HB2⟩
  | true =>
    rw [hfb0] at HF0
    have HFB0 := hide hfb0
    clear hfb0
    cases hfb1 : fwB L1 with
    | false =>
      rw [hfb1] at HF1
      clear hfb1 HH0 HH1 HN0 HN1
      go_enter Tryd.func6, Tryd.ntmps6
      go_wp2_with fail
      refine (unhide HF0).mono ?_
      rintro e w1 ⟨rfl, hw1⟩
      rw [show w1 = w from hw1]
      clear hw1
      go_wp2_with fail
      refine (unhide HF1).mono ?_
      rintro e w1 ⟨rfl, hw1⟩
      rw [show w1 = w from hw1]
      clear hw1
      go_wp2_with fail
      refine (unhide HAW _ (Below.refl _ _)).mono ?_
      rintro e w2 ⟨rfl, b2⟩
      have HB2 := hide b2
      clear b2
      go_wp2
      go_ret
      exact ⟨rfl, unhide HB2⟩
    | true =>
      rw [hfb1] at HF1
      have HFB1 := hide hfb1
      clear hfb1
      have HNEW : Hid (Calls Tryd.prog 10 #[.string ⟨#[115, 104]⟩, .slice (some ⟨w.heap.size, 0, none⟩) 1 1] (w.alloc (.cells #[.string ⟨#[97]⟩] 9)) fun e w' => ∃ b, e = .returned (.pointer (some ⟨b, 0, none⟩)) ∧ KpAt w b 0 w' ⟨[115, 104], [[97]], [], 0⟩) := hide (by
        refine (new_any [115, 104] _ [[97]] _ (a_in w) (by decide)).mono ?_
        rintro e w' ⟨h1, h2, h3⟩
        exact ⟨_, h1, h2.mono (fun k hk => by simp at hk; omega), ((Below.refl _ w).alloc (Nat.le_refl _) _).trans (h3.mono (by simp)), Nat.zero_le _, by show 1 ≤ 20; decide⟩)
      go_enter Tryd.func6, Tryd.ntmps6
      go_wp2_with fail
      refine (unhide HF0).mono ?_
      rintro e w1 ⟨rfl, hw1⟩
      rw [show w1 = w from hw1]
      clear hw1
      go_wp2_with fail
      refine (unhide HF1).mono ?_
      rintro e w1 ⟨rfl, hw1⟩
      rw [show w1 = w from hw1]
      clear hw1
      go_wp2_with fail
      refine (unhide HNEW).mono ?_
      rintro e w2 ⟨b, rfl, hI0⟩
      have HI0 := hide hI0
      clear hI0 HNEW HF0 HF1
      go_wp2_with fail
      go_loopw [8] (fun i wr => ∃ (k : Nat) (s : VSt), i = .int .i64 k ∧ k ≤ n0 ∧ Hid (KpAt w b k wr s ∧ s.zero = [115, 104])) (fun i _ => n0 - (intOf i).toNat)
      case atStart => exact ⟨0, ⟨[115, 104], [[97]], [], 0⟩, rfl, Nat.zero_le _, hide ⟨unhide HI0, rfl⟩⟩
      case round =>
        obtain ⟨k, s, rfl, hk, HI⟩ := hrel
        clear HI0
        have HIB : Hid (Below w.heap.size w wr) := hide (unhide HI).1.below
        by_cases hlt : k < n0
        · obtain ⟨o, ho⟩ := get_ex (l := L0) (k := k) (by have := unhide HN0; omega)
          obtain ⟨g, q, u, had, hg, a0, a1, a2, a3, a4, a5⟩ := ((unhide HH0).below (unhide HIB)).op ho
          subst had
          obtain ⟨ho1, ho2, ho3⟩ := opB_of (unhide HFB0) ho
          have hn60 : n0 ≤ 60 := by have := len_of (unhide HFB0); have := unhide HN0; omega
          have HA5 := hide a5
          obtain ⟨au, ac, hu, _⟩ := id a5
          obtain ⟨al, hal⟩ : ∃ al, al = o.args.length := ⟨_, rfl⟩
          rw [← hal] at hu
          subst hu
          have hlt1 : (k : Int) < (n0 : Int) := by omega
          have hk0 : (0 : Int) ≤ (k : Int) := by omega
          have HDO : Hid (Calls Tryd.prog 11 #[.pointer (some ⟨b, 0, none⟩), .agg #[.int .i64 o.kind, .string (BA o.name), .string (BA o.value), .int .i64 o.n, .slice au al ac]] wr fun e w' => DoEnd (stepS s o) b (fun j => w.heap.size ≤ j) wr e w') := hide (do_any b (fun j => w.heap.size ≤ j) s o (.slice au al ac) wr (fun j hj => Nat.le_trans (unhide HIB).size hj) (unhide HI).1.at_ (unhide HA5) (by omega) (by omega) (by have := (unhide HI).1.few; omega) (by have := (unhide HI).1.args; omega))
          have HST2 := hide (And.intro (step_len s o) (step_args s o 20 (unhide HI).1.args ho3))
          clear a5 hal ho1 ho2 ho3 hg ho
          go_wp2_with fail
          refine (unhide HDO).mono ?_
          rintro e we ⟨rfl, ve, ge⟩
          have HE : Hid (KpAt w b (k + 1) we (stepS s o).1 ∧ (stepS s o).1.zero = [115, 104]) := hide ⟨⟨ve, (unhide HIB).trans (ge.below (unhide HIB).size (fun j hj => hj)), by have := (unhide HST2).1; have := (unhide HI).1.few; omega, (unhide HST2).2⟩, by rw [step_zero]; exact (unhide HI).2⟩
          clear ve ge HDO a0 a1 a2 a3 a4
          go_wp2
          go_roundw
          case rel => exact ⟨k + 1, _, by go_num, by omega, HE⟩
          case measure => simp [intOf]; omega
        · have hlt1 : ¬ (k : Int) < (n0 : Int) := by omega
          obtain ⟨s1, hs1⟩ : ∃ s1, s1 = s := ⟨_, rfl⟩
          rw [← hs1] at HI
          clear hs1
          have HLE : Hid (s1.L.length ≤ 60) := hide (by have := (unhide HI).1.few; have := len_of (unhide HFB0); have := unhide HN0; omega)
          have HAE : Hid (s1.args.length ≤ 20) := hide (unhide HI).1.args
          have HZE : Hid (s1.zero = [115, 104]) := hide (unhide HI).2
          have HCP := hide (copy_any b _ s1 wr (unhide HI).1.at_ (by have := unhide HAE; omega))
          have HPL : Hid (∀ W v, VRow W v s1.L → Calls Tryd.prog 15 #[v] W fun e w' => ∃ v', e = .returned v' ∧ Below W.heap.size W w' ∧ w'.ownsRow W.heap.size 72 5 v' s1.L.length (flatV s1.L)) := hide (fun W v hV => plain_any v s1.L W hV (by have := unhide HLE; omega))
          have HSM : Hid (∀ W v1 v2, VRow W v1 s1.L → VRow W v2 s1.L → Calls Tryd.prog 18 #[v1, v2] W fun e w' => e = .returned (.bool true) ∧ Below W.heap.size W w') := hide (fun W v1 v2 h1 h2 => same_any v1 v2 s1.L W h1 h2 (by have := unhide HLE; omega))
          have HTX : Hid (∀ W v1 v2, AIn W v1 s1.args → AIn W v2 s1.args → Calls Tryd.prog 19 #[v1, v2] W fun e w' => e = .returned (.bool true) ∧ Below W.heap.size W w') := hide (fun W v1 v2 h1 h2 => textsEq_any v1 v2 s1.args W h1 h2 (by have := unhide HAE; omega))
          go_wp2_with fail
          refine (unhide HCP).mono ?_
          rintro e w3 ⟨b2, rfl, v3, b3⟩
          have Va : Hid (VAt w3 b (fun j => w.heap.size ≤ j ∧ j < wr.heap.size) s1) := hide ((unhide HI).1.at_.tight.below b3)
          have Vb : Hid (VAt w3 b2 (fun j => wr.heap.size ≤ j ∧ j < w3.heap.size) s1) := hide v3.tight
          have B3 : Hid (Below w.heap.size w w3) := hide ((unhide HIB).trans (b3.mono (unhide HIB).size))
          have HZ2 : Hid (w.heap.size ≤ wr.heap.size) := hide (unhide HIB).size
          have HZ3 : Hid (wr.heap.size ≤ w3.heap.size) := hide b3.size
          clear v3 b3 HCP HI HIB
          have HAL1 := hide (all_any b _ s1 w3 (unhide Va) (by have := unhide HLE; omega))
          go_wp2_with fail
          refine (unhide HAL1).mono ?_
          rintro e w4 ⟨v4, rfl, o4, b4⟩
          have Va4 := hide ((unhide Va).below b4)
          have Vb4 := hide ((unhide Vb).below b4)
          have B4 := hide ((unhide B3).trans (b4.mono (unhide B3).size))
          have S4 : Hid (w3.heap.size ≤ w4.heap.size) := hide b4.size
          have HP4 := hide (unhide HPL w4 v4 (VRow.of o4 rfl))
          clear b4 o4 HAL1 Va Vb B3
          go_wp2_with fail
          refine (unhide HP4).mono ?_
          rintro e w5 ⟨v5, rfl, b5, o5⟩
          have Va5 := hide ((unhide Va4).below b5)
          have Vb5 := hide ((unhide Vb4).below b5)
          have B5 := hide ((unhide B4).trans (b5.mono (unhide B4).size))
          have S5 : Hid (w3.heap.size ≤ w5.heap.size) := hide (Nat.le_trans (unhide S4) b5.size)
          have O5 := hide o5
          have HAL2 := hide (all_any b2 _ s1 w5 (unhide Vb5) (by have := unhide HLE; omega))
          clear b5 o5 HP4 Va4 Vb4 B4 S4
          go_wp2_with fail
          refine (unhide HAL2).mono ?_
          rintro e w6 ⟨v6, rfl, o6, b6⟩
          have Va6 := hide ((unhide Va5).below b6)
          have Vb6 := hide ((unhide Vb5).below b6)
          have B6 := hide ((unhide B5).trans (b6.mono (unhide B5).size))
          have S6 : Hid (w3.heap.size ≤ w6.heap.size) := hide (Nat.le_trans (unhide S5) b6.size)
          have O6 := hide (own_grownS (unhide O5) (grownS_of_below (S := fun _ => False) b6) (fun _ _ e => e))
          have HP6 := hide (unhide HPL w6 v6 (VRow.of o6 rfl))
          clear b6 o6 HAL2 Va5 Vb5 B5 S5 O5
          go_wp2_with fail
          refine (unhide HP6).mono ?_
          rintro e w7 ⟨v7, rfl, b7, o7⟩
          have Va7 := hide ((unhide Va6).below b7)
          have Vb7 := hide ((unhide Vb6).below b7)
          have B7 := hide ((unhide B6).trans (b7.mono (unhide B6).size))
          have S7 : Hid (w3.heap.size ≤ w7.heap.size) := hide (Nat.le_trans (unhide S6) b7.size)
          have HS7 := hide (unhide HSM w7 v5 v7 (VRow.of (own_grownS (unhide O6) (grownS_of_below (S := fun _ => False) b7) (fun _ _ e => e)) rfl) (VRow.of o7 rfl))
          clear b7 o7 HP6 Va6 Vb6 B6 S6 O6
          go_wp2_with fail
          refine (unhide HS7).mono ?_
          rintro e wA ⟨rfl, bA⟩
          have VaA := hide ((unhide Va7).below bA)
          have VbA := hide ((unhide Vb7).below bA)
          have BA1 := hide ((unhide B7).trans (bA.mono (unhide B7).size))
          have SA : Hid (w3.heap.size ≤ wA.heap.size) := hide (Nat.le_trans (unhide S7) bA.size)
          have HR1 := hide (args_any b _ s1 wA (unhide VaA) (by have := unhide HAE; omega))
          clear bA HS7 Va7 Vb7 B7 S7
          go_wp2_with fail
          refine (unhide HR1).mono ?_
          rintro e wB ⟨vB, rfl, aB, _, bB⟩
          have VaB := hide ((unhide VaA).below bB)
          have VbB := hide ((unhide VbA).below bB)
          have BB := hide ((unhide BA1).trans (bB.mono (unhide BA1).size))
          have SB : Hid (w3.heap.size ≤ wB.heap.size) := hide (Nat.le_trans (unhide SA) bB.size)
          have AB := hide aB
          have HR2 := hide (args_any b2 _ s1 wB (unhide VbB) (by have := unhide HAE; omega))
          clear bB aB HR1 VaA VbA BA1 SA
          go_wp2_with fail
          refine (unhide HR2).mono ?_
          rintro e wC ⟨vC, rfl, aC, _, bC⟩
          have VaC := hide ((unhide VaB).below bC)
          have VbC := hide ((unhide VbB).below bC)
          have BC := hide ((unhide BB).trans (bC.mono (unhide BB).size))
          have SC : Hid (w3.heap.size ≤ wC.heap.size) := hide (Nat.le_trans (unhide SB) bC.size)
          have HTC := hide (unhide HTX wC vB vC ((unhide AB).grown (grownS_of_below (S := fun _ => False) bC) (fun _ _ e => e)).read aC.read)
          clear bC aC HR2 VaB VbB BB SB AB
          go_wp2_with fail
          refine (unhide HTC).mono ?_
          rintro e w8 ⟨rfl, b8⟩
          have Va := hide ((unhide VaC).below b8)
          have Vb := hide ((unhide VbC).below b8)
          have B8 := hide ((unhide BC).trans (b8.mono (unhide BC).size))
          have S8 : Hid (w3.heap.size ≤ w8.heap.size) := hide (Nat.le_trans (unhide SC) b8.size)
          have HT1 := hide (status_any b _ s1 w8 (unhide Va))
          have HT2 := hide (status_any b2 _ s1 w8 (unhide Vb))
          clear b8 HTC VaC VbC BC SC
          go_wp2_with fail
          refine (unhide HT1).mono ?_
          rintro e wD ⟨rfl, hwD⟩
          rw [show wD = w8 from hwD]
          clear hwD HT1
          go_wp2_with fail
          refine (unhide HT2).mono ?_
          rintro e wD ⟨rfl, hwD⟩
          rw [show wD = w8 from hwD]
          clear hwD HT2
          cases other with
          | false =>
            obtain ⟨XA, hXA⟩ : ∃ XA, XA = (fun j : Nat => w.heap.size ≤ j ∧ j < wr.heap.size) := ⟨_, rfl⟩
            obtain ⟨XB, hXB⟩ : ∃ XB, XB = (fun j : Nat => wr.heap.size ≤ j ∧ j < w3.heap.size) := ⟨_, rfl⟩
            have VA : Hid (VAt w8 b XA s1) := hide (by rw [hXA]; exact unhide Va)
            have VB : Hid (VAt w8 b2 XB s1) := hide (by rw [hXB]; exact unhide Vb)
            have HXAw : Hid (∀ j, XA j → w.heap.size ≤ j ∧ j < w3.heap.size) := hide (fun j hj => by rw [hXA] at hj; have := unhide HZ2; have := unhide HZ3; have := hj.1; have := hj.2; omega)
            have HXD : Hid (∀ j, XB j → ¬ XA j) := hide (fun j h1 h2 => by rw [hXA] at h2; rw [hXB] at h1; have := h1.1; have := h1.2; have := h2.1; have := h2.2; omega)
            clear Va Vb hXA hXB
            have HALB := hide (all_any b2 XB s1 w8 (unhide VB) (by have := unhide HLE; omega))
            go_wp2_with fail
            refine (unhide HALB).mono ?_
            rintro e wb ⟨vb1, rfl, ob, bb⟩
            have VBb := hide ((unhide VB).below bb)
            have VAb := hide ((unhide VA).below bb)
            have Bb := hide ((unhide B8).trans (bb.mono (unhide B8).size))
            have Sb := hide (Nat.le_trans (unhide S8) bb.size)
            have HPb := hide (unhide HPL wb vb1 (VRow.of ob rfl))
            clear bb ob VA VB B8 S8 HALB
            go_wp2_with fail
            refine (unhide HPb).mono ?_
            rintro e wc ⟨vall, rfl, bc, oc⟩
            have VBc := hide ((unhide VBb).below bc)
            have VAc := hide ((unhide VAb).below bc)
            have Bc := hide ((unhide Bb).trans (bc.mono (unhide Bb).size))
            have Sc := hide (Nat.le_trans (unhide Sb) bc.size)
            have Oc := hide (And.intro oc (unhide Sb))
            have HARB := hide (args_any b2 XB s1 wc (unhide VBc) (by have := unhide HAE; omega))
            clear bc oc HPb VAb VBb Bb Sb
            go_wp2_with fail
            refine (unhide HARB).mono ?_
            rintro e wd ⟨varg, rfl, ad, kd, bd⟩
            have VBd := hide ((unhide VBc).below bd)
            have VAd := hide ((unhide VAc).below bd)
            have Bd := hide ((unhide Bc).trans (bd.mono (unhide Bc).size))
            have Od := hide (And.intro (own_grownS (unhide Oc).1 (grownS_of_below (S := fun _ => False) bd) (fun _ _ e => e)) (unhide Oc).2)
            have Ad := hide (And.intro ad (fun j hj => Nat.le_trans (unhide Sc) (kd j hj)))
            have Sd := hide (Nat.le_trans (unhide Sc) bd.size)
            have HSTB := hide (status_any b2 XB s1 wd (unhide VBd))
            clear bd ad kd VAc VBc Bc Oc Sc HARB
            go_wp2_with fail
            refine (unhide HSTB).mono ?_
            rintro e wd' ⟨rfl, hwd⟩
            rw [show wd' = wd from hwd]
            clear hwd HSTB
            obtain ⟨X, hX⟩ : ∃ X : Nat → Prop, X = fun j => XA j ∨ wd.heap.size ≤ j := ⟨_, rfl⟩
            have HXc : Hid (∀ j, wd.heap.size ≤ j → X j) := hide (fun j hj => by rw [hX]; exact .inr hj)
            have HXw : Hid (∀ j, X j → w.heap.size ≤ j) := hide (fun j hj => by
              rw [hX] at hj
              have := (unhide Bd).size
              rcases hj with hj | hj
              · exact (unhide HXAw j hj).1
              · omega)
            have HXB : Hid (∀ j, XB j → j < wd.heap.size → ¬ X j) := hide (fun j hj hlt hx => by
              rw [hX] at hx
              rcases hx with hx | hx
              · exact unhide HXD j hj hx
              · omega)
            have HXm : Hid (∀ j, w3.heap.size ≤ j → j < wd.heap.size → ¬ X j) := hide (fun j h1 h2 hx => by
              rw [hX] at hx
              rcases hx with hx | hx
              · have := (unhide HXAw j hx).2; omega
              · omega)
            have VX : Hid (VAt wd b X s1) := hide ((unhide VAd).mono (fun j hj => by rw [hX]; exact .inl hj))
            clear hX VAd
            go_wp2_with fail
            go_loopw [15] (fun i wr => ∃ (k : Nat) (s : VSt), i = .int .i64 k ∧ k ≤ n1 ∧ Hid (VAt wr b X s ∧ GrownS wd wr X ∧ s.L.length ≤ 60 + k ∧ s.args.length ≤ 20)) (fun i _ => n1 - (intOf i).toNat)
            case atStart => exact ⟨0, s1, rfl, Nat.zero_le _, hide ⟨unhide VX, grownS_of_below (Below.refl _ _), by have := unhide HLE; omega, unhide HAE⟩⟩
            case round =>
              obtain ⟨k, s, rfl, hk, HI⟩ := hrel
              clear VX
              have HIB : Hid (Below w.heap.size w wr) := hide ((unhide Bd).trans ((unhide HI).2.1.below (unhide Bd).size (unhide HXw)))
              by_cases hlt : k < n1
              · clear VBd Od Ad
                obtain ⟨o, ho⟩ := get_ex (l := L1) (k := k) (by have := unhide HN1; omega)
                obtain ⟨g, q, u, had, hg, a0, a1, a2, a3, a4, a5⟩ := ((unhide HH1).below (unhide HIB)).op ho
                subst had
                obtain ⟨ho1, ho2, ho3⟩ := opB_of (unhide HFB1) ho
                have hn60 : n1 ≤ 60 := by have := len_of (unhide HFB1); have := unhide HN1; omega
                have HA5 := hide a5
                obtain ⟨au, ac, hu, _⟩ := id a5
                obtain ⟨al, hal⟩ : ∃ al, al = o.args.length := ⟨_, rfl⟩
                rw [← hal] at hu
                subst hu
                have hlt1 : (k : Int) < (n1 : Int) := by omega
                have hk0 : (0 : Int) ≤ (k : Int) := by omega
                have HDO : Hid (Calls Tryd.prog 11 #[.pointer (some ⟨b, 0, none⟩), .agg #[.int .i64 o.kind, .string (BA o.name), .string (BA o.value), .int .i64 o.n, .slice au al ac]] wr fun e w' => DoEnd (stepS s o) b X wr e w') := hide (do_any b X s o (.slice au al ac) wr (fun j hj => unhide HXc j (Nat.le_trans (unhide HI).2.1.size hj)) (unhide HI).1 (unhide HA5) (by omega) (by omega) (by have := (unhide HI).2.2.1; omega) (by have := (unhide HI).2.2.2; omega))
                have HST2 := hide (And.intro (step_len s o) (step_args s o 20 (unhide HI).2.2.2 ho3))
                clear a5 hal ho1 ho2 ho3 hg ho
                go_wp2_with fail
                refine (unhide HDO).mono ?_
                rintro e we ⟨rfl, ve, ge⟩
                have HE : Hid (VAt we b X (stepS s o).1 ∧ GrownS wd we X ∧ (stepS s o).1.L.length ≤ 60 + (k + 1) ∧ (stepS s o).1.args.length ≤ 20) := hide ⟨ve, (unhide HI).2.1.trans ge, by have := (unhide HST2).1; have := (unhide HI).2.2.1; omega, (unhide HST2).2⟩
                clear ve ge HDO a0 a1 a2 a3 a4
                go_wp2
                go_roundw
                case rel => exact ⟨k + 1, _, by go_num, by omega, HE⟩
                case measure => simp [intOf]; omega
              · have hlt1 : ¬ (k : Int) < (n1 : Int) := by omega
                have VBr := hide ((unhide VBd).grown (unhide HI).2.1 (unhide HXB))
                have Or := hide (own_grownS (unhide Od).1 (unhide HI).2.1 (fun j hj => unhide HXm j (Nat.le_trans (unhide Od).2 (World.ownsRow.lt (unhide Od).1 j hj).1) (World.ownsRow.lt (unhide Od).1 j hj).2))
                have Ar := hide ((unhide Ad).1.grown (unhide HI).2.1 (fun j hj => unhide HXm j ((unhide Ad).2 j hj) ((unhide Ad).1.lt hj)))
                have HARA := hide (args_any b X s wr (unhide HI).1 (by have := (unhide HI).2.2.2; omega))
                have HWR := hide (unhide HIB).size
                go_wp2_with fail
                refine (unhide HARA).mono ?_
                rintro e wf ⟨vl, rfl, al, kl, bf⟩
                obtain ⟨lad, lcap, hvl, _, _⟩ := al.len
                subst hvl
                have HVl := hide (unhide VBr).tight
                have HBf := hide bf
                have Of := hide (And.intro (own_grownS (unhide Or) (grownS_of_below (S := fun _ => False) bf) (fun _ _ e => e)) (fun j hj => (World.ownsRow.lt (unhide Or) j hj).2))
                have Af := hide (And.intro ((unhide Ar).grown (grownS_of_below (S := fun _ => False) bf) (fun _ _ e => e)) (fun j hj => (unhide Ar).lt (k := j) hj))
                have Bf := hide ((unhide HIB).trans (bf.mono (unhide HIB).size))
                obtain ⟨na, hna⟩ : ∃ na, na = s.args.length := ⟨_, rfl⟩
                rw [← hna] at al kl
                rw [← hna]
                have Al : Hid (∃ l : List (List UInt8), l.length = na ∧ AOwn wf (.slice lad na lcap) l) := hide ⟨_, hna.symm, al⟩
                have Kl := hide kl
                have hna20 : na ≤ 20 := by have := (unhide HI).2.2.2; omega
                obtain ⟨wx, hwx⟩ : ∃ wx, wx = wr := ⟨_, rfl⟩
                rw [← hwx] at Kl HVl HBf Of Af HWR
                clear bf al kl hna HARA VBr Or Ar hwx VBd Od Ad
                go_wp2_with fail
                go_loopw [17] (fun i wr => ∃ (k : Nat), i = .int .i64 k ∧ k ≤ na ∧ Hid ((∃ l : List (List UInt8), l.length = na ∧ AOwn wr (.slice lad na lcap) l) ∧ GrownS wf wr (fun j => (Value.slice lad na lcap).ownBlock = some j))) (fun i _ => na - (intOf i).toNat)
                case atStart => exact ⟨0, rfl, Nat.zero_le _, hide ⟨unhide Al, grownS_of_below (Below.refl _ _)⟩⟩
                case round =>
                  obtain ⟨k, rfl, hk, HJ⟩ := hrel
                  clear Al
                  by_cases hlt : k < na
                  · obtain ⟨⟨l, hl1, hl2⟩, hl3⟩ := unhide HJ
                    obtain ⟨g, o, rfl, ⟨x0, d0⟩, f0, hset⟩ := hl2.at_set hl1 hlt
                    have HE := hide (hset [115, 112, 111, 105, 108, 116])
                    have hlt1 : (k : Int) < (na : Int) := by omega
                    have hk0 : (0 : Int) ≤ (k : Int) := by omega
                    have HL3 := hide hl3
                    have HL1 := hide hl1
                    clear hset hl1 hl2 hl3 Of Af HVl HBf Bf Kl
                    go_wp2
                    go_roundw
                    case rel => exact ⟨k + 1, by go_num, by omega, hide ⟨⟨_, (unhide HE).1.trans (unhide HL1), (unhide HE).2⟩, (unhide HL3).trans (GrownS.of (grown_setCell _ _ _) (fun j e => by simpa [Value.ownBlock] using e.symm))⟩⟩
                    case measure => simp [intOf]; omega
                  · have hlt1 : ¬ (k : Int) < (na : Int) := by omega
                    have Vq := hide (((unhide HVl).below (unhide HBf)).grown (unhide HJ).2 (fun j hj _ e => by have := unhide Kl j e; have := hj.2; omega))
                    have Oq := hide (own_grownS (unhide Of).1 (unhide HJ).2 (fun j hj e => by have := unhide Kl j e; have := (unhide Of).2 j hj; omega))
                    have Aq := hide ((unhide Af).1.grown (unhide HJ).2 (fun j hj e => by have := unhide Kl j e; have := (unhide Af).2 j hj; omega))
                    have Bq : Hid (Below w.heap.size w wr) := hide ((unhide Bf).trans ((unhide HJ).2.below (unhide Bf).size (fun j e => by have := unhide Kl j e; have := unhide HWR; omega)))
                    clear HVl Of Af Kl HJ HBf Bf
                    have HPAR : Hid (∀ X W, VAt W b2 X s1 → Calls Tryd.prog 13 #[.pointer (some ⟨b2, 0, none⟩), .string ⟨#[48]⟩] W fun e w' => e = .returned (.tuple #[.string ⟨#[115, 104]⟩, .bool true]) ∧ w' = W) := hide (fun X W hV => by
                      have := param_num b2 X s1 [48] W hV (by decide) (by have := unhide HAE; omega) (by decide) (by decide) (by decide) (by decide) (by kernel_rfl)
                      rwa [show nmbS s1 [48] = (s1.zero, true) by unfold nmbS; rw [if_pos rfl], unhide HZE] at this)
                    go_wp2_with fail
                    refine (unhide HPAR _ _ (unhide Vq)).mono ?_
                    rintro e wz ⟨rfl, hwz⟩
                    rw [show wz = wr from hwz]
                    clear hwz HPAR
                    have HAL2 := hide (all_any b2 _ s1 wr (unhide Vq) (by have := unhide HLE; omega))
                    go_wp2_with fail
                    refine (unhide HAL2).mono ?_
                    rintro e wg ⟨vg, rfl, og, bg⟩
                    have Vg := hide ((unhide Vq).below bg)
                    have Og := hide (own_grownS (unhide Oq) (grownS_of_below (S := fun _ => False) bg) (fun _ _ e => e))
                    have Ag := hide ((unhide Aq).grown (grownS_of_below (S := fun _ => False) bg) (fun _ _ e => e))
                    have Bg := hide ((unhide Bq).trans (bg.mono (unhide Bq).size))
                    have HPg := hide (unhide HPL wg vg (VRow.of og rfl))
                    clear bg og HAL2 Vq Oq Aq Bq
                    go_wp2_with fail
                    refine (unhide HPg).mono ?_
                    rintro e wh ⟨vh, rfl, bh, oh⟩
                    have Vh := hide ((unhide Vg).below bh)
                    have Ah := hide ((unhide Ag).grown (grownS_of_below (S := fun _ => False) bh) (fun _ _ e => e))
                    have Bh := hide ((unhide Bg).trans (bh.mono (unhide Bg).size))
                    have HSh := hide (unhide HSM wh vh vall (VRow.of oh rfl) (VRow.of (own_grownS (unhide Og) (grownS_of_below (S := fun _ => False) bh) (fun _ _ e => e)) rfl))
                    clear bh oh HPg Vg Og Ag Bg
                    go_wp2_with fail
                    refine (unhide HSh).mono ?_
                    rintro e wi ⟨rfl, bi⟩
                    have Vi := hide ((unhide Vh).below bi)
                    have Ai := hide ((unhide Ah).grown (grownS_of_below (S := fun _ => False) bi) (fun _ _ e => e))
                    have Bi := hide ((unhide Bh).trans (bi.mono (unhide Bh).size))
                    have HARi := hide (args_any b2 _ s1 wi (unhide Vi) (by have := unhide HAE; omega))
                    clear bi HSh Vh Ah Bh
                    go_wp2_with fail
                    refine (unhide HARi).mono ?_
                    rintro e wj ⟨vj, rfl, aj, _, bj⟩
                    have Vj := hide ((unhide Vi).below bj)
                    have Bj := hide ((unhide Bi).trans (bj.mono (unhide Bi).size))
                    have HTj := hide (unhide HTX wj vj varg aj.read ((unhide Ai).grown (grownS_of_below (S := fun _ => False) bj) (fun _ _ e => e)).read)
                    clear bj aj HARi Vi Ai Bi
                    go_wp2_with fail
                    refine (unhide HTj).mono ?_
                    rintro e wk ⟨rfl, bk⟩
                    have Vk := hide ((unhide Vj).below bk)
                    have Bk := hide ((unhide Bj).trans (bk.mono (unhide Bj).size))
                    have HSk := hide (status_any b2 _ s1 wk (unhide Vk))
                    clear bk HTj Vj Bj
                    go_wp2_with fail
                    refine (unhide HSk).mono ?_
                    rintro e wl ⟨rfl, hwl⟩
                    rw [show wl = wk from hwl]
                    clear hwl HSk
                    go_wp2_with fail
                    refine (unhide HAW _ (unhide Bk)).mono ?_
                    rintro e wm ⟨rfl, bm⟩
                    have Bm := hide bm
                    clear bm
                    go_wp2
                    go_ret
                    exact ⟨rfl, unhide Bm⟩
          | true =>
            obtain ⟨XA, hXA⟩ : ∃ XA, XA = (fun j : Nat => wr.heap.size ≤ j ∧ j < w3.heap.size) := ⟨_, rfl⟩
            obtain ⟨XB, hXB⟩ : ∃ XB, XB = (fun j : Nat => w.heap.size ≤ j ∧ j < wr.heap.size) := ⟨_, rfl⟩
            have VA : Hid (VAt w8 b2 XA s1) := hide (by rw [hXA]; exact unhide Vb)
            have VB : Hid (VAt w8 b XB s1) := hide (by rw [hXB]; exact unhide Va)
            have HXAw : Hid (∀ j, XA j → w.heap.size ≤ j ∧ j < w3.heap.size) := hide (fun j hj => by rw [hXA] at hj; have := unhide HZ2; have := unhide HZ3; have := hj.1; have := hj.2; omega)
            have HXD : Hid (∀ j, XB j → ¬ XA j) := hide (fun j h1 h2 => by rw [hXA] at h2; rw [hXB] at h1; have := h1.1; have := h1.2; have := h2.1; have := h2.2; omega)
            clear Va Vb hXA hXB
            have HALB := hide (all_any b XB s1 w8 (unhide VB) (by have := unhide HLE; omega))
            go_wp2_with fail
            refine (unhide HALB).mono ?_
            rintro e wb ⟨vb1, rfl, ob, bb⟩
            have VBb := hide ((unhide VB).below bb)
            have VAb := hide ((unhide VA).below bb)
            have Bb := hide ((unhide B8).trans (bb.mono (unhide B8).size))
            have Sb := hide (Nat.le_trans (unhide S8) bb.size)
            have HPb := hide (unhide HPL wb vb1 (VRow.of ob rfl))
            clear bb ob VA VB B8 S8 HALB
            go_wp2_with fail
            refine (unhide HPb).mono ?_
            rintro e wc ⟨vall, rfl, bc, oc⟩
            have VBc := hide ((unhide VBb).below bc)
            have VAc := hide ((unhide VAb).below bc)
            have Bc := hide ((unhide Bb).trans (bc.mono (unhide Bb).size))
            have Sc := hide (Nat.le_trans (unhide Sb) bc.size)
            have Oc := hide (And.intro oc (unhide Sb))
            have HARB := hide (args_any b XB s1 wc (unhide VBc) (by have := unhide HAE; omega))
            clear bc oc HPb VAb VBb Bb Sb
            go_wp2_with fail
            refine (unhide HARB).mono ?_
            rintro e wd ⟨varg, rfl, ad, kd, bd⟩
            have VBd := hide ((unhide VBc).below bd)
            have VAd := hide ((unhide VAc).below bd)
            have Bd := hide ((unhide Bc).trans (bd.mono (unhide Bc).size))
            have Od := hide (And.intro (own_grownS (unhide Oc).1 (grownS_of_below (S := fun _ => False) bd) (fun _ _ e => e)) (unhide Oc).2)
            have Ad := hide (And.intro ad (fun j hj => Nat.le_trans (unhide Sc) (kd j hj)))
            have Sd := hide (Nat.le_trans (unhide Sc) bd.size)
            have HSTB := hide (status_any b XB s1 wd (unhide VBd))
            clear bd ad kd VAc VBc Bc Oc Sc HARB
            go_wp2_with fail
            refine (unhide HSTB).mono ?_
            rintro e wd' ⟨rfl, hwd⟩
            rw [show wd' = wd from hwd]
            clear hwd HSTB
            obtain ⟨X, hX⟩ : ∃ X : Nat → Prop, X = fun j => XA j ∨ wd.heap.size ≤ j := ⟨_, rfl⟩
            have HXc : Hid (∀ j, wd.heap.size ≤ j → X j) := hide (fun j hj => by rw [hX]; exact .inr hj)
            have HXw : Hid (∀ j, X j → w.heap.size ≤ j) := hide (fun j hj => by
              rw [hX] at hj
              have := (unhide Bd).size
              rcases hj with hj | hj
              · exact (unhide HXAw j hj).1
              · omega)
            have HXB : Hid (∀ j, XB j → j < wd.heap.size → ¬ X j) := hide (fun j hj hlt hx => by
              rw [hX] at hx
              rcases hx with hx | hx
              · exact unhide HXD j hj hx
              · omega)
            have HXm : Hid (∀ j, w3.heap.size ≤ j → j < wd.heap.size → ¬ X j) := hide (fun j h1 h2 hx => by
              rw [hX] at hx
              rcases hx with hx | hx
              · have := (unhide HXAw j hx).2; omega
              · omega)
            have VX : Hid (VAt wd b2 X s1) := hide ((unhide VAd).mono (fun j hj => by rw [hX]; exact .inl hj))
            clear hX VAd
            go_wp2_with fail
            go_loopw [15] (fun i wr => ∃ (k : Nat) (s : VSt), i = .int .i64 k ∧ k ≤ n1 ∧ Hid (VAt wr b2 X s ∧ GrownS wd wr X ∧ s.L.length ≤ 60 + k ∧ s.args.length ≤ 20)) (fun i _ => n1 - (intOf i).toNat)
            case atStart => exact ⟨0, s1, rfl, Nat.zero_le _, hide ⟨unhide VX, grownS_of_below (Below.refl _ _), by have := unhide HLE; omega, unhide HAE⟩⟩
            case round =>
              obtain ⟨k, s, rfl, hk, HI⟩ := hrel
              clear VX
              have HIB : Hid (Below w.heap.size w wr) := hide ((unhide Bd).trans ((unhide HI).2.1.below (unhide Bd).size (unhide HXw)))
              by_cases hlt : k < n1
              · clear VBd Od Ad
                obtain ⟨o, ho⟩ := get_ex (l := L1) (k := k) (by have := unhide HN1; omega)
                obtain ⟨g, q, u, had, hg, a0, a1, a2, a3, a4, a5⟩ := ((unhide HH1).below (unhide HIB)).op ho
                subst had
                obtain ⟨ho1, ho2, ho3⟩ := opB_of (unhide HFB1) ho
                have hn60 : n1 ≤ 60 := by have := len_of (unhide HFB1); have := unhide HN1; omega
                have HA5 := hide a5
                obtain ⟨au, ac, hu, _⟩ := id a5
                obtain ⟨al, hal⟩ : ∃ al, al = o.args.length := ⟨_, rfl⟩
                rw [← hal] at hu
                subst hu
                have hlt1 : (k : Int) < (n1 : Int) := by omega
                have hk0 : (0 : Int) ≤ (k : Int) := by omega
                have HDO : Hid (Calls Tryd.prog 11 #[.pointer (some ⟨b2, 0, none⟩), .agg #[.int .i64 o.kind, .string (BA o.name), .string (BA o.value), .int .i64 o.n, .slice au al ac]] wr fun e w' => DoEnd (stepS s o) b2 X wr e w') := hide (do_any b2 X s o (.slice au al ac) wr (fun j hj => unhide HXc j (Nat.le_trans (unhide HI).2.1.size hj)) (unhide HI).1 (unhide HA5) (by omega) (by omega) (by have := (unhide HI).2.2.1; omega) (by have := (unhide HI).2.2.2; omega))
                have HST2 := hide (And.intro (step_len s o) (step_args s o 20 (unhide HI).2.2.2 ho3))
                clear a5 hal ho1 ho2 ho3 hg ho
                go_wp2_with fail
                refine (unhide HDO).mono ?_
                rintro e we ⟨rfl, ve, ge⟩
                have HE : Hid (VAt we b2 X (stepS s o).1 ∧ GrownS wd we X ∧ (stepS s o).1.L.length ≤ 60 + (k + 1) ∧ (stepS s o).1.args.length ≤ 20) := hide ⟨ve, (unhide HI).2.1.trans ge, by have := (unhide HST2).1; have := (unhide HI).2.2.1; omega, (unhide HST2).2⟩
                clear ve ge HDO a0 a1 a2 a3 a4
                go_wp2
                go_roundw
                case rel => exact ⟨k + 1, _, by go_num, by omega, HE⟩
                case measure => simp [intOf]; omega
              · have hlt1 : ¬ (k : Int) < (n1 : Int) := by omega
                have VBr := hide ((unhide VBd).grown (unhide HI).2.1 (unhide HXB))
                have Or := hide (own_grownS (unhide Od).1 (unhide HI).2.1 (fun j hj => unhide HXm j (Nat.le_trans (unhide Od).2 (World.ownsRow.lt (unhide Od).1 j hj).1) (World.ownsRow.lt (unhide Od).1 j hj).2))
                have Ar := hide ((unhide Ad).1.grown (unhide HI).2.1 (fun j hj => unhide HXm j ((unhide Ad).2 j hj) ((unhide Ad).1.lt hj)))
                have HARA := hide (args_any b2 X s wr (unhide HI).1 (by have := (unhide HI).2.2.2; omega))
                have HWR := hide (unhide HIB).size
                go_wp2_with fail
                refine (unhide HARA).mono ?_
                rintro e wf ⟨vl, rfl, al, kl, bf⟩
                obtain ⟨lad, lcap, hvl, _, _⟩ := al.len
                subst hvl
                have HVl := hide (unhide VBr).tight
                have HBf := hide bf
                have Of := hide (And.intro (own_grownS (unhide Or) (grownS_of_below (S := fun _ => False) bf) (fun _ _ e => e)) (fun j hj => (World.ownsRow.lt (unhide Or) j hj).2))
                have Af := hide (And.intro ((unhide Ar).grown (grownS_of_below (S := fun _ => False) bf) (fun _ _ e => e)) (fun j hj => (unhide Ar).lt (k := j) hj))
                have Bf := hide ((unhide HIB).trans (bf.mono (unhide HIB).size))
                obtain ⟨na, hna⟩ : ∃ na, na = s.args.length := ⟨_, rfl⟩
                rw [← hna] at al kl
                rw [← hna]
                have Al : Hid (∃ l : List (List UInt8), l.length = na ∧ AOwn wf (.slice lad na lcap) l) := hide ⟨_, hna.symm, al⟩
                have Kl := hide kl
                have hna20 : na ≤ 20 := by have := (unhide HI).2.2.2; omega
                obtain ⟨wx, hwx⟩ : ∃ wx, wx = wr := ⟨_, rfl⟩
                rw [← hwx] at Kl HVl HBf Of Af HWR
                clear bf al kl hna HARA VBr Or Ar hwx VBd Od Ad
                go_wp2_with fail
                go_loopw [17] (fun i wr => ∃ (k : Nat), i = .int .i64 k ∧ k ≤ na ∧ Hid ((∃ l : List (List UInt8), l.length = na ∧ AOwn wr (.slice lad na lcap) l) ∧ GrownS wf wr (fun j => (Value.slice lad na lcap).ownBlock = some j))) (fun i _ => na - (intOf i).toNat)
                case atStart => exact ⟨0, rfl, Nat.zero_le _, hide ⟨unhide Al, grownS_of_below (Below.refl _ _)⟩⟩
                case round =>
                  obtain ⟨k, rfl, hk, HJ⟩ := hrel
                  clear Al
                  by_cases hlt : k < na
                  · obtain ⟨⟨l, hl1, hl2⟩, hl3⟩ := unhide HJ
                    obtain ⟨g, o, rfl, ⟨x0, d0⟩, f0, hset⟩ := hl2.at_set hl1 hlt
                    have HE := hide (hset [115, 112, 111, 105, 108, 116])
                    have hlt1 : (k : Int) < (na : Int) := by omega
                    have hk0 : (0 : Int) ≤ (k : Int) := by omega
                    have HL3 := hide hl3
                    have HL1 := hide hl1
                    clear hset hl1 hl2 hl3 Of Af HVl HBf Bf Kl
                    go_wp2
                    go_roundw
                    case rel => exact ⟨k + 1, by go_num, by omega, hide ⟨⟨_, (unhide HE).1.trans (unhide HL1), (unhide HE).2⟩, (unhide HL3).trans (GrownS.of (grown_setCell _ _ _) (fun j e => by simpa [Value.ownBlock] using e.symm))⟩⟩
                    case measure => simp [intOf]; omega
                  · have hlt1 : ¬ (k : Int) < (na : Int) := by omega
                    have Vq := hide (((unhide HVl).below (unhide HBf)).grown (unhide HJ).2 (fun j hj _ e => by have := unhide Kl j e; have := hj.2; omega))
                    have Oq := hide (own_grownS (unhide Of).1 (unhide HJ).2 (fun j hj e => by have := unhide Kl j e; have := (unhide Of).2 j hj; omega))
                    have Aq := hide ((unhide Af).1.grown (unhide HJ).2 (fun j hj e => by have := unhide Kl j e; have := (unhide Af).2 j hj; omega))
                    have Bq : Hid (Below w.heap.size w wr) := hide ((unhide Bf).trans ((unhide HJ).2.below (unhide Bf).size (fun j e => by have := unhide Kl j e; have := unhide HWR; omega)))
                    clear HVl Of Af Kl HJ HBf Bf
                    have HPAR : Hid (∀ X W, VAt W b X s1 → Calls Tryd.prog 13 #[.pointer (some ⟨b, 0, none⟩), .string ⟨#[48]⟩] W fun e w' => e = .returned (.tuple #[.string ⟨#[115, 104]⟩, .bool true]) ∧ w' = W) := hide (fun X W hV => by
                      have := param_num b X s1 [48] W hV (by decide) (by have := unhide HAE; omega) (by decide) (by decide) (by decide) (by decide) (by kernel_rfl)
                      rwa [show nmbS s1 [48] = (s1.zero, true) by unfold nmbS; rw [if_pos rfl], unhide HZE] at this)
                    go_wp2_with fail
                    refine (unhide HPAR _ _ (unhide Vq)).mono ?_
                    rintro e wz ⟨rfl, hwz⟩
                    rw [show wz = wr from hwz]
                    clear hwz HPAR
                    have HAL2 := hide (all_any b _ s1 wr (unhide Vq) (by have := unhide HLE; omega))
                    go_wp2_with fail
                    refine (unhide HAL2).mono ?_
                    rintro e wg ⟨vg, rfl, og, bg⟩
                    have Vg := hide ((unhide Vq).below bg)
                    have Og := hide (own_grownS (unhide Oq) (grownS_of_below (S := fun _ => False) bg) (fun _ _ e => e))
                    have Ag := hide ((unhide Aq).grown (grownS_of_below (S := fun _ => False) bg) (fun _ _ e => e))
                    have Bg := hide ((unhide Bq).trans (bg.mono (unhide Bq).size))
                    have HPg := hide (unhide HPL wg vg (VRow.of og rfl))
                    clear bg og HAL2 Vq Oq Aq Bq
                    go_wp2_with fail
                    refine (unhide HPg).mono ?_
                    rintro e wh ⟨vh, rfl, bh, oh⟩
                    have Vh := hide ((unhide Vg).below bh)
                    have Ah := hide ((unhide Ag).grown (grownS_of_below (S := fun _ => False) bh) (fun _ _ e => e))
                    have Bh := hide ((unhide Bg).trans (bh.mono (unhide Bg).size))
                    have HSh := hide (unhide HSM wh vh vall (VRow.of oh rfl) (VRow.of (own_grownS (unhide Og) (grownS_of_below (S := fun _ => False) bh) (fun _ _ e => e)) rfl))
                    clear bh oh HPg Vg Og Ag Bg
                    go_wp2_with fail
                    refine (unhide HSh).mono ?_
                    rintro e wi ⟨rfl, bi⟩
                    have Vi := hide ((unhide Vh).below bi)
                    have Ai := hide ((unhide Ah).grown (grownS_of_below (S := fun _ => False) bi) (fun _ _ e => e))
                    have Bi := hide ((unhide Bh).trans (bi.mono (unhide Bh).size))
                    have HARi := hide (args_any b _ s1 wi (unhide Vi) (by have := unhide HAE; omega))
                    clear bi HSh Vh Ah Bh
                    go_wp2_with fail
                    refine (unhide HARi).mono ?_
                    rintro e wj ⟨vj, rfl, aj, _, bj⟩
                    have Vj := hide ((unhide Vi).below bj)
                    have Bj := hide ((unhide Bi).trans (bj.mono (unhide Bi).size))
                    have HTj := hide (unhide HTX wj vj varg aj.read ((unhide Ai).grown (grownS_of_below (S := fun _ => False) bj) (fun _ _ e => e)).read)
                    clear bj aj HARi Vi Ai Bi
                    go_wp2_with fail
                    refine (unhide HTj).mono ?_
                    rintro e wk ⟨rfl, bk⟩
                    have Vk := hide ((unhide Vj).below bk)
                    have Bk := hide ((unhide Bj).trans (bk.mono (unhide Bj).size))
                    have HSk := hide (status_any b _ s1 wk (unhide Vk))
                    clear bk HTj Vj Bj
                    go_wp2_with fail
                    refine (unhide HSk).mono ?_
                    rintro e wl ⟨rfl, hwl⟩
                    rw [show wl = wk from hwl]
                    clear hwl HSk
                    go_wp2_with fail
                    refine (unhide HAW _ (unhide Bk)).mono ?_
                    rintro e wm ⟨rfl, bm⟩
                    have Bm := hide bm
                    clear bm
                    go_wp2
                    go_ret
                    exact ⟨rfl, unhide Bm⟩

end Go.Proofs.YtbcbnoeplapblaaDoor

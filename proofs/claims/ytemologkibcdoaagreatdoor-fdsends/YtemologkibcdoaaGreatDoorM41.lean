/-
  Numbers of open files: Open.
  Numbers of open files: begun; the chapter's examples.
-/
import Derived.Test.YtemologkibcdoaaGreatDoorM40

/- Numbers of open files: Open. -/
namespace Go.Proofs.YtemologkibcdoaaGreatDoor
open Go.RowKit Go.Maps

/-- What Open answers and leaves. -/
inductive OpnA (A : AS) (nb k : Nat) (d : Int) (p : List UInt8) (fl : Int) : Int → Int → AS → Prop
  | full : numsL (row A k) false = [] → OpnA A nb k d p fl 0 29 A
  | err (j : Nat) (r : List Nat) (E : Int) (s' : NS) : numsL (row A k) false = j :: r → OpSp A.s nb d p fl none E s' → OpnA A nb k d p fl 0 E { A with s := s' }
  | ok (j : Nat) (r : List Nat) (y : Fl) (s' : NS) : numsL (row A k) false = j :: r → OpSp A.s nb d p fl (some y) 0 s' → OpnA A nb k d p fl (j : Int) 0 (takeA (nwA { A with s := s' } (.file y)) k (j : Int) A.th.length)
theorem op_none {s s' : NS} {nb : Nat} {d fl E : Int} {p : List UInt8} (h : OpSp s nb d p fl none E s') : E ≠ 0 := by
  cases h with
  | arg h => decide
  | err N E s' h1 h2 h3 => exact h3
theorem op_some {s s' : NS} {nb : Nat} {d fl E : Int} {p : List UInt8} {y : Fl} (h : OpSp s nb d p fl (some y) E s') : E = 0 := by
  cases h with
  | ok N s' h1 h2 => rfl
set_option maxRecDepth 20000 in
set_option maxHeartbeats 8000000 in
theorem sopen_any {w : World} {f q nb n x : Nat} {B : Bas} {Z : Nat → Prop} {A : AS} {sb : List Nat} {H : Hp} {L : Fay} (F : FH w f q Z A nb n B x sb H L) {k b : Nat} {l : List (Option Nat)} (hb : sb[k]? = some b) (hl : A.st[k]? = some l) (K : AOk A n) (hn : n ≤ 8000) (d : Int) (p : List UInt8) (fl : Int) (hd : -9223372036854775808 ≤ d ∧ d ≤ 9223372036854775807) (hp : p.length ≤ 100000) : Calls Tryz.prog 17 #[.pointer (some ⟨b, 0, none⟩), .int .i64 d, .string (BA p), .int .i64 fl] w fun e w' => ∃ N E, e = .returned (.tuple #[.int .i64 N, .int .i64 E]) ∧ Hid (∃ A' H' L', OpnA A nb k d p fl N E A' ∧ FH w' f q Z A' nb (n + 5) B x sb H' L' ∧ AOk A' (n + 5)) := by
  obtain ⟨c0, c1, f1, hblk, hl16⟩ := F.setCell hb hl
  have HNI := hide (sisnil_any hblk)
  have HNU := hide (numbers_any hblk hl16 false)
  have hfr : ∀ j, j ∈ numsL l false → j < 16 ∧ l[j]? = some none := fun j hj => nums_free hl16 hj
  have hrow : numsL (row A k) false = numsL l false := by rw [row_at hl]
  obtain ⟨ns, hns⟩ : ∃ ns, ns = numsL l false := ⟨_, rfl⟩
  rw [← hns] at HNU hfr hrow
  have HF := hide F
  cases ns with
  | nil =>
    have HFIN : Hid (∀ w', Below w.heap.size w w' → ∃ A' H' L', OpnA A nb k d p fl 0 29 A' ∧ FH w' f q Z A' nb (n + 5) B x sb H' L' ∧ AOk A' (n + 5)) := hide (fun w' hb => ⟨A, H, L, .full hrow, (F.below hb).mono (by omega), K.mono (by omega)⟩)
    obtain ⟨T, hT⟩ : ∃ T, T = BA p := ⟨_, rfl⟩
    rw [← hT]
    clear F K hb hl c0 c1 f1 hblk hl16 hfr hns HF hrow hT
    go_enter Tryz.func17, Tryz.ntmps17
    go_wp2_with fail
    refine (unhide HNI).mono ?_
    rintro e w1 ⟨rfl, hw⟩
    subst hw
    go_wp2_with fail
    refine (unhide HNU).mono ?_
    rintro e w2 ⟨v, rfl, h1⟩
    obtain ⟨hrow, hbel⟩ := unhide h1
    obtain ⟨ad, cap, rfl, hcap, hmx, hcell⟩ := hrow
    have HA := hide (unhide HFIN w2 hbel)
    clear HNU HNI HFIN h1 hbel hcell hcap
    go_wp2_with fail
    go_ret2
    exact ⟨_, _, rfl, HA⟩
  | cons a r =>
    obtain ⟨a1, a2⟩ := hfr a List.mem_cons_self
    obtain ⟨N, hN⟩ : ∃ N, N = r.length + 1 := ⟨_, rfl⟩
    have hNl : (a :: r).length = N := by rw [hN]; rfl
    have hN0 : ((N : Int) == 0) = false := by simp; omega
    have hN1 : 0 < N := by omega
    have HOP : Hid (∀ w2 Z2, FH w2 f q Z2 A nb n ⟨B.w, w2, Z2⟩ x sb H L → Calls Tryz.prog 42 #[.pointer (some ⟨f, 0, none⟩), .int .i64 d, .string (BA p), .int .i64 fl] w2 fun e w' => ∃ E pt, e = .returned (.tuple #[.pointer pt, .int .i64 E]) ∧ ((E ≠ 0 ∧ Hid (∃ A' H', OpnA A nb k d p fl 0 E A' ∧ FH w' f q Z2 A' nb (n + 5) ⟨B.w, w2, Z2⟩ x sb H' L ∧ AOk A' (n + 5))) ∨ (E = 0 ∧ ∃ ob, pt = some ⟨ob, 0, none⟩ ∧ Hid (∃ s' y H1, OpSp A.s nb d p fl (some y) 0 s' ∧ MX w' f q Z2 s' nb (n + 3) ⟨B.w, w2, Z2⟩ H1 ∧ Lies H1 f x L sb A (openA A) ∧ H1 ob = some ⟨.obj A.th.length, 145, flV f y⟩ ∧ FlOk y)))) := hide (fun w2 Z2 F2 => by
      have F3 := F2.mx.base (Yof Z2 H) (fun _ h => h)
      refine (fopen_any (GX.nil F3) (by omega) d p fl hd hp).mono (fun e w' h => ?_)
      obtain ⟨o, E, pt, e1, h2⟩ := h
      obtain ⟨s', h3, ⟨rfl, rfl, G⟩ | ⟨y, ob, Y', rfl, rfl, G, hY, hob⟩⟩ := unhide h2
      · exact ⟨E, none, e1, .inl ⟨op_none h3, hide ⟨_, H, .err a r E s' hrow h3, ⟨(F2.mx.tree G.fx).mono (by omega), F2.li.tree s'⟩, (ok_tree K s').mono (by omega)⟩⟩⟩
      · have hE := op_some h3
        subst hE
        obtain ⟨m1, m2, m3⟩ := F2.mx.opened (.obj A.th.length) G (fun k hk => (hY k hk).2) hob.2
        exact ⟨0, _, e1, .inr ⟨rfl, ob, rfl, hide ⟨s', y, _, h3, m1, F2.li.ext (upd_new m3 _), upd_self _ _ _, m2⟩⟩⟩)
    have HT : Hid (∀ w2 Z2 B2 ob, (∃ s' y H1, OpSp A.s nb d p fl (some y) 0 s' ∧ MX w2 f q Z2 s' nb (n + 3) B2 H1 ∧ Lies H1 f x L sb A (openA A) ∧ H1 ob = some ⟨.obj A.th.length, 145, flV f y⟩ ∧ FlOk y) → w2.cell? ⟨b, 0, none⟩ = some (.pointer (some ⟨x, 0, none⟩)) ∧ Calls Tryz.prog 34 #[.pointer (some ⟨b, 0, none⟩), .int .i64 (a : Int), .pointer (some ⟨w2.heap.size, 0, none⟩)] (w2.alloc (.cells #[.iface 103 (.agg #[.pointer (some ⟨ob, 0, none⟩)]), .int .i64 0] 98)) fun e w' => e = .returned (.tuple #[]) ∧ Hid (∃ A' H' L', OpnA A nb k d p fl (a : Int) 0 A' ∧ FH w' f q Z2 A' nb (n + 5) B2 x sb H' L' ∧ AOk A' (n + 5))) := hide (fun w2 Z2 B2 ob h => by
      obtain ⟨s', y, H1, h1, M1, L1, h2, h3⟩ := h
      have K1 := ok_tree K s'
      have K2 := ok_new K1 (y := .file y) h3
      have F2 := FH.newTh (A := { A with s := s' }) M1 (L1.tree s') K1.row (y := .file y) (ob := ob) (v := .iface 103 (.agg #[.pointer (some ⟨ob, 0, none⟩)])) (by simp [itf, Fay.add, ptrV]) (by show H1 (if A.th.length = A.th.length then ob else _) = _; rw [if_pos rfl]; exact h2)
      have hg1 : (nwA { A with s := s' } (.file y)).th[A.th.length]? = some ⟨.file y, 0⟩ := nw_get { A with s := s' } _
      have := ftake_any F2 hb hl a1 hg1 (Nat.zero_le _) (by have := K2.open; omega)
      rw [show (L.add ({ A with s := s' } : AS).th.length w2.heap.size ob).tb A.th.length = w2.heap.size by simp [Fay.add]] at this
      refine ⟨((M1.blk _ _ (L1.st k b l hb hl).1).cell 0 rfl), this.mono (fun e w' h => ⟨h.1, hide ?_⟩)⟩
      obtain ⟨H', F3⟩ := unhide h.2
      exact ⟨_, H', _, .ok a r y s' hrow h1, F3.mono (by omega), (ok_take K2 hl a2 hg1).mono (by omega)⟩)
    have HXC : Hid (∀ w2 A2 n2 B2 Z2 H2 L2, FH w2 f q Z2 A2 nb n2 B2 x sb H2 L2 → w2.cell? ⟨x, 0, none⟩ = some (.pointer (some ⟨f, 0, none⟩))) := hide (fun w2 A2 n2 B2 Z2 H2 L2 G => G.filCell.1)
    obtain ⟨T, hT⟩ : ∃ T, T = BA p := ⟨_, rfl⟩
    rw [← hT] at HOP ⊢
    have HBL : Hid (∀ w2, Below w.heap.size w w2 → w2.cell? ⟨b, 0, none⟩ = some (.pointer (some ⟨x, 0, none⟩))) := hide (fun w2 h => (hblk.below h hblk.lt).cell 0 rfl)
    clear K hb hl c1 f1 hl16 hfr hns a1 a2 hN hrow hT F hblk
    go_enter Tryz.func17, Tryz.ntmps17
    go_wp2_with fail
    refine (unhide HNI).mono ?_
    rintro e w1 ⟨rfl, hw⟩
    subst hw
    go_wp2_with fail
    refine (unhide HNU).mono ?_
    rintro e w2 ⟨v, rfl, h1⟩
    obtain ⟨hrow, hbel⟩ := unhide h1
    obtain ⟨ad, cap, rfl, hcap, hmx, hcell⟩ := hrow
    have F1 := (unhide HF).renew hbel
    obtain ⟨g, rfl, g2, g3, g4⟩ := hcell 0 a rfl
    have HCE : Hid (∀ w3, GrownS w2 w3 (Zup w1 w2 Z) → w3.cell? ⟨g, 0, none⟩ = some (.int .i64 (a : Int))) := hide (fun w3 hg => by
      have hz : ¬ Zup w1 w2 Z g := by
        rintro (h | h)
        · have := h.2
          omega
        · omega
      have := hg.block g g3 hz
      simp only [World.cell?] at g2 ⊢
      rw [this]
      exact g2)
    have HFIN : Hid (∀ w3 N E, (∃ A' H' L', OpnA A nb k d p fl N E A' ∧ FH w3 f q (Zup w1 w2 Z) A' nb (n + 5) ⟨B.w, w2, Zup w1 w2 Z⟩ x sb H' L' ∧ AOk A' (n + 5)) → ∃ A' H' L', OpnA A nb k d p fl N E A' ∧ FH w3 f q Z A' nb (n + 5) B x sb H' L' ∧ AOk A' (n + 5)) := hide (fun w3 N E h => by
      obtain ⟨A', H', L', h1, G, h3⟩ := h
      exact ⟨A', H', L', h1, (unhide HF).home hbel (F1.back G).1, h3⟩)
    have HO := hide (unhide HOP w2 _ F1.rebased)
    have d0 := unhide HBL w2 hbel
    have d1 := unhide HXC _ _ _ _ _ _ _ F1
    rw [hNl]
    clear HNU HNI h1 hcell hcap F1 HF hbel g4 HXC HBL HOP hNl
    go_wp2_with fail
    refine (unhide HO).mono ?_
    rintro e w3 ⟨E, pt, rfl, h3⟩
    clear HO
    rcases h3 with ⟨hE, hH⟩ | ⟨rfl, ob, rfl, hH⟩
    · have hE1 : (E != 0) = true := by simpa using hE
      have HA := hide (unhide HFIN w3 0 E (by obtain ⟨A', H', m⟩ := unhide hH; exact ⟨A', H', L, m⟩))
      clear hH hE HFIN HT HCE
      go_wp2_with fail
      go_ret2
      exact ⟨_, _, rfl, HA⟩
    · have q1 : w3.cell? ⟨g, 0, none⟩ = some (.int .i64 (a : Int)) := unhide HCE w3 (by obtain ⟨s', y, H1, _, M1, _⟩ := unhide hH; exact M1.env.kept)
      obtain ⟨q0, hT⟩ := unhide HT w3 _ _ ob (unhide hH)
      have HT2 := hide hT
      clear hH HT hT
      go_wp2_with fail
      refine (unhide HT2).mono ?_
      rintro e w4 ⟨rfl, h4⟩
      have q2 : w4.cell? ⟨g, 0, none⟩ = some (.int .i64 (a : Int)) := unhide HCE w4 (by obtain ⟨A', H', L', _, G, _⟩ := unhide h4; exact G.mx.env.kept)
      have HA := hide (unhide HFIN w4 _ _ (unhide h4))
      clear HT2 h4 HFIN HCE q1
      go_wp2_with fail
      go_ret2
      exact ⟨_, _, rfl, HA⟩

end Go.Proofs.YtemologkibcdoaaGreatDoor

/- Numbers of open files: begun; the chapter's examples. -/
namespace Go.Proofs.YtemologkibcdoaaGreatDoor
open Go.RowKit Go.Maps

set_option maxRecDepth 20000 in
set_option maxHeartbeats 1000000 in
theorem begun_any (m nb : Nat) (w : World) {B : Bas} (E : EnvB w B) (h1 : 1 ≤ m) (h2 : m ≤ 1024) (h3 : 1 ≤ nb) (h4 : nb ≤ 4096) : Calls Tryz.prog 6 #[.int .i64 (m : Int), .int .i64 (nb : Int)] w fun e w' => ∃ f x s, e = .returned (.tuple #[.pointer (some ⟨f, 0, none⟩), .pointer (some ⟨x, 0, none⟩), .pointer (some ⟨s, 0, none⟩)]) ∧ Hid (∃ q Z H L, FH w' f q Z (nwSt (A0 (rootS m))) nb 1 B x [s] H L) := by
  have HN := hide (nnew_any m nb w E h1 h2 h3 h4)
  clear E
  go_enter Tryz.func6, Tryz.ntmps6
  go_wp2_with fail
  refine (unhide HN).mono ?_
  rintro e w1 ⟨f, q, rfl, HW⟩
  obtain ⟨Y, hfx, _, _, _⟩ := unhide HW
  have HX := hide (fdnew_any hfx)
  clear hfx HW HN
  go_wp2_with fail
  refine (unhide HX).mono ?_
  rintro e w2 ⟨rfl, h2⟩
  have HS : Hid (Calls Tryz.prog 25 #[.pointer (some ⟨w1.heap.size, 0, none⟩)] w2 fun e w' => e = .returned (.pointer (some ⟨w2.heap.size, 0, none⟩)) ∧ Hid (∃ q Z H L, FH w' f q Z (nwSt (A0 (rootS m))) nb 1 B w1.heap.size [w2.heap.size] H L)) := hide (by
    obtain ⟨H, L, F⟩ := unhide h2
    refine (xset_any F).mono (fun e w' h => ⟨h.1, hide ?_⟩)
    obtain ⟨H', F'⟩ := unhide h.2
    exact ⟨q, Y, H', L, F'⟩)
  obtain ⟨x, hx⟩ : ∃ x, x = w1.heap.size := ⟨_, rfl⟩
  rw [← hx] at HS ⊢
  obtain ⟨s, hs⟩ : ∃ s, s = w2.heap.size := ⟨_, rfl⟩
  rw [← hs] at HS
  clear hs hx h2 HX
  go_wp2_with fail
  refine (unhide HS).mono ?_
  rintro e w3 ⟨rfl, h3⟩
  clear HS
  go_wp2_with fail
  go_returns
  exact ⟨f, x, s, rfl, h3⟩
/-- The examples' states. -/
def rw2 : List (Option Nat) := [some 0, some 1, none, none, none, none, none, none, none, none, none, none, none, none, none, none]
def hiL : List UInt8 := [104, 105]
def aw1 (s : NS) : AS := ⟨s, [⟨.rd 0, 1⟩, ⟨.wr 0, 1⟩], [Pi.np0], [], [rw2]⟩
def aw2 (s : NS) : AS := ⟨s, [⟨.rd 0, 1⟩, ⟨.wr 0, 1⟩], [⟨hiL, 1, 1⟩], [], [rw2]⟩
def aw3 (s : NS) : AS := ⟨s, [⟨.rd 0, 2⟩, ⟨.wr 0, 2⟩], [⟨hiL, 1, 1⟩], [], [rw2, rw2]⟩
def aw4 (s : NS) : AS := ⟨s, [⟨.rd 0, 2⟩, ⟨.wr 0, 2⟩], [Pi.np0], [], [rw2, rw2]⟩
theorem aw_pip (s : NS) : pipA (nwSt (A0 s)) 0 = aw1 s := rfl
theorem aw_pipR (s : NS) : pipR (nwSt (A0 s)) 0 = (0, 1, 0) := rfl
theorem aw_wri {s : NS} {nb : Nat} {N E : Int} {A' : AS} (h : WrtA (aw1 s) nb 0 1 hiL N E A') : N = 2 ∧ E = 0 ∧ A' = aw2 s := by
  cases h with
  | no h => cases h
  | via i t N E A' h1 h2 h3 =>
    have e1 : numL (row (aw1 s) 0) 1 = some 1 := rfl
    rw [e1] at h1
    injection h1 with h1
    subst h1
    have e2 : (aw1 s).th[1]? = some ⟨.wr 0, 1⟩ := rfl
    rw [e2] at h2
    injection h2 with h2
    subst h2
    cases h3 with
    | wr p => exact ⟨rfl, rfl, rfl⟩
theorem aw_frk (s : NS) : frkA (aw2 s) 0 = aw3 s := rfl
theorem aw_red (s : NS) : redT (aw3 s) 1 0 9 = hiL ∧ redE (aw3 s) 1 0 9 = 0 ∧ redA (aw3 s) 1 0 9 = aw4 s := ⟨rfl, rfl, rfl⟩
theorem aw_red2 (s : NS) : redT (aw4 s) 0 1 1 = [] ∧ redE (aw4 s) 0 1 1 = 33 ∧ redA (aw4 s) 0 1 1 = aw4 s := ⟨rfl, rfl, rfl⟩
set_option maxRecDepth 20000 in
set_option maxHeartbeats 4000000 in
theorem awake16_any (w : World) (E : EnvB w (Bas.of w)) : Calls Tryz.prog 8 #[] w fun e w' => e = .returned (.bool true) ∧ Below w.heap.size w w' := by
  have HB := hide (begun_any 9 9 w E (by decide) (by decide) (by decide) (by decide))
  clear E
  obtain ⟨s0, hs0⟩ : ∃ s0, s0 = rootS 9 := ⟨_, rfl⟩
  rw [← hs0] at HB
  clear hs0
  go_enter Tryz.func8, Tryz.ntmps8
  go_wp2_with fail
  refine (unhide HB).mono ?_
  rintro e w1 ⟨f, x, s, rfl, h1⟩
  have HP : Hid (Calls Tryz.prog 24 #[.pointer (some ⟨s, 0, none⟩)] w1 fun e w' => e = .returned (.tuple #[.int .i64 0, .int .i64 1, .int .i64 0]) ∧ Hid (∃ n q Z H L, FH w' f q Z (aw1 s0) 9 n (Bas.of w) x [s] H L ∧ AOk (aw1 s0) n ∧ n = 5)) := hide (by
    obtain ⟨q, Z, H, L, F⟩ := unhide h1
    have := spipe_any F (k := 0) rfl rfl (ok_nwSt (ok_0 s0 1)) (by decide)
    rw [aw_pip, aw_pipR] at this
    refine this.mono (fun e w' h => ⟨h.1, hide ?_⟩)
    obtain ⟨⟨H', L', F'⟩, K'⟩ := unhide h.2
    exact ⟨5, q, Z, H', L', F', K', rfl⟩)
  clear h1 HB
  go_wp2_with fail
  refine (unhide HP).mono ?_
  rintro e w2 ⟨rfl, h2⟩
  have HW : Hid (Calls Tryz.prog 19 #[.pointer (some ⟨s, 0, none⟩), .int .i64 1, .string ⟨#[104, 105]⟩] w2 fun e w' => e = .returned (.tuple #[.int .i64 2, .int .i64 0]) ∧ Hid (∃ n q Z H L, FH w' f q Z (aw2 s0) 9 n (Bas.of w) x [s] H L ∧ AOk (aw2 s0) n ∧ n = 6)) := hide (by
    obtain ⟨n, q, Z, H, L, F, K, rfl⟩ := unhide h2
    refine (swrite_any F (k := 0) rfl rfl K (by decide) 1 hiL (by decide)).mono (fun e w' h => ?_)
    obtain ⟨N, E, e1, e2⟩ := h
    obtain ⟨A', H', e3, e4, e5⟩ := unhide e2
    obtain ⟨rfl, rfl, rfl⟩ := aw_wri e3
    exact ⟨e1, hide ⟨6, q, Z, H', L, e4, e5, rfl⟩⟩)
  clear h2 HP
  go_wp2_with fail
  refine (unhide HW).mono ?_
  rintro e w3 ⟨rfl, h3⟩
  have HF : Hid (Calls Tryz.prog 9 #[.pointer (some ⟨s, 0, none⟩)] w3 fun e w' => e = .returned (.pointer (some ⟨w3.heap.size, 0, none⟩)) ∧ Hid (∃ n q Z H L, FH w' f q Z (aw3 s0) 9 n (Bas.of w) x [s, w3.heap.size] H L ∧ AOk (aw3 s0) n ∧ n = 22)) := hide (by
    obtain ⟨n, q, Z, H, L, F, K, rfl⟩ := unhide h3
    have := sfork_any F (k := 0) rfl rfl K (by decide)
    rw [aw_frk] at this
    refine this.mono (fun e w' h => ⟨h.1, hide ?_⟩)
    obtain ⟨⟨H', F'⟩, K'⟩ := unhide h.2
    exact ⟨22, q, Z, H', L, F', K', rfl⟩)
  obtain ⟨c, hc⟩ : ∃ c, c = w3.heap.size := ⟨_, rfl⟩
  rw [← hc] at HF
  clear h3 HW hc
  go_wp2_with fail
  refine (unhide HF).mono ?_
  rintro e w4 ⟨rfl, h4⟩
  have HR : Hid (Calls Tryz.prog 18 #[.pointer (some ⟨c, 0, none⟩), .int .i64 0, .int .i64 9] w4 fun e w' => e = .returned (.tuple #[.string ⟨#[104, 105]⟩, .int .i64 0]) ∧ Hid (∃ n q Z H L, FH w' f q Z (aw4 s0) 9 n (Bas.of w) x [s, c] H L ∧ AOk (aw4 s0) n ∧ n = 22)) := hide (by
    obtain ⟨n, q, Z, H, L, F, K, rfl⟩ := unhide h4
    have := sread_any F (k := 1) rfl rfl K 0 9
    rw [(aw_red s0).1, (aw_red s0).2.1, (aw_red s0).2.2] at this
    refine this.mono (fun e w' h => ⟨h.1, hide ?_⟩)
    obtain ⟨H', F', K'⟩ := unhide h.2
    exact ⟨22, q, Z, H', L, F', K', rfl⟩)
  clear h4 HF
  go_wp2_with fail
  refine (unhide HR).mono ?_
  rintro e w5 ⟨rfl, h5⟩
  have HR2 : Hid (Calls Tryz.prog 18 #[.pointer (some ⟨s, 0, none⟩), .int .i64 1, .int .i64 1] w5 fun e w' => e = .returned (.tuple #[.string ⟨#[]⟩, .int .i64 33]) ∧ Hid (∃ n q Z H L, FH w' f q Z (aw4 s0) 9 n (Bas.of w) x [s, c] H L ∧ AOk (aw4 s0) n ∧ n = 22)) := hide (by
    obtain ⟨n, q, Z, H, L, F, K, rfl⟩ := unhide h5
    have := sread_any F (k := 0) rfl rfl K 1 1
    rw [(aw_red2 s0).1, (aw_red2 s0).2.1, (aw_red2 s0).2.2] at this
    refine this.mono (fun e w' h => ⟨h.1, hide ?_⟩)
    obtain ⟨H', F', K'⟩ := unhide h.2
    exact ⟨22, q, Z, H', L, F', K', rfl⟩)
  clear h5 HR
  go_wp2_with fail
  refine (unhide HR2).mono ?_
  rintro e w6 ⟨rfl, h6⟩
  have HO : Hid (∀ W, Below w6.heap.size w6 W → Calls Tryz.prog 11 #[.pointer (some ⟨x, 0, none⟩)] W fun e w' => e = .returned (.int .i64 2) ∧ Below w.heap.size w w') := hide (fun W hW => by
    obtain ⟨n, q, Z, H, L, F, K, rfl⟩ := unhide h6
    refine (xopen_any (F.below hW)).mono (fun e w' h => ⟨h.1, ?_⟩)
    rw [h.2]
    exact (F.below hW).mx.env.bel)
  clear h6 HR2
  go_wp2_with fail
  refine (unhide HO _ (by first | exact Below.refl _ _ | exact below_drew _ _)).mono ?_
  rintro e w7 ⟨rfl, h7⟩
  have H7 := hide h7
  clear h7 HO
  go_wp2_with fail
  go_ret
  exact ⟨rfl, unhide H7⟩

end Go.Proofs.YtemologkibcdoaaGreatDoor

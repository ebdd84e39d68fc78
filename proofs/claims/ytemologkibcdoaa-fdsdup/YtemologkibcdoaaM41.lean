/-
  Numbers of open files: Open.
  Numbers of open files: begun; the chapter's examples.
-/
import Derived.Test.YtemologkibcdoaaM40

/- Numbers of open files: Open. -/
namespace Go.Proofs.Ytemologkibcdoaa
open Go.RowKit Go.Maps

/-- What Open answers and leaves. -/
inductive OpnA (A : AS) (nb k : Nat) (d : Int) (p : List UInt8) (fl : Int) : Int → Int → AS → Prop
  | full : numsL (row A k) false = [] → OpnA A nb k d p fl 0 29 A
  | err (j : Nat) (r : List Nat) (E : Int) (s' : NS) : numsL (row A k) false = j :: r → OpSp A.s nb d p fl none E s' → OpnA A nb k d p fl 0 E { A with s := s' }
  | ok (j : Nat) (r : List Nat) (y : Fl) (s' : NS) : numsL (row A k) false = j :: r → OpSp A.s nb d p fl (some y) 0 s' → OpnA A nb k d p fl (j : Int) 0 (takeA (nwA { A with s := s' } (.file y)) k (j : Int) A.th.length)
theorem op_none {s s' : NS} {nb : Nat} {d fl E : Int} {p : List UInt8} (h : OpSp s nb d p fl none E s') : E ≠ 0 := by
  cases h with
  | arg h => decide
  | err N E s' h1 h2 h3 => exact h3
theorem op_some {s s' : NS} {nb : Nat} {d fl E : Int} {p : List UInt8} {y : Fl} (h : OpSp s nb d p fl (some y) E s') : E = 0 := by
  cases h with
  | ok N s' h1 h2 => rfl
end Go.Proofs.Ytemologkibcdoaa

/- Numbers of open files: begun; the chapter's examples. -/
namespace Go.Proofs.Ytemologkibcdoaa
open Go.RowKit Go.Maps

set_option maxRecDepth 20000 in
set_option maxHeartbeats 1000000 in
theorem begun_any (m nb : Nat) (w : World) {B : Bas} (E : EnvB w B) (h1 : 1 ≤ m) (h2 : m ≤ 1024) (h3 : 1 ≤ nb) (h4 : nb ≤ 4096) : Calls Try.prog 4 #[.int .i64 (m : Int), .int .i64 (nb : Int)] w fun e w' => ∃ f x s, e = .returned (.tuple #[.pointer (some ⟨f, 0, none⟩), .pointer (some ⟨x, 0, none⟩), .pointer (some ⟨s, 0, none⟩)]) ∧ Hid (∃ q Z H L, FH w' f q Z (nwSt (A0 (rootS m))) nb 1 B x [s] H L) := by
  have HN := hide (nnew_any m nb w E h1 h2 h3 h4)
  clear E
  go_enter Try.func4, Try.ntmps4
  go_wp2_with fail
  refine (unhide HN).mono ?_
  rintro e w1 ⟨f, q, rfl, HW⟩
  obtain ⟨Y, hfx, _, _, _⟩ := unhide HW
  have HX := hide (fdnew_any hfx)
  clear hfx HW HN
  go_wp2_with fail
  refine (unhide HX).mono ?_
  rintro e w2 ⟨rfl, h2⟩
  have HS : Hid (Calls Try.prog 15 #[.pointer (some ⟨w1.heap.size, 0, none⟩)] w2 fun e w' => e = .returned (.pointer (some ⟨w2.heap.size, 0, none⟩)) ∧ Hid (∃ q Z H L, FH w' f q Z (nwSt (A0 (rootS m))) nb 1 B w1.heap.size [w2.heap.size] H L)) := hide (by
    obtain ⟨H, L, F⟩ := unhide h2
    refine (xset_any F).mono (fun e w' h => ⟨h.1, hide ?_⟩)
    obtain ⟨H', F'⟩ := unhide h.2
    exact ⟨q, Y, H', L, F'⟩)
  obtain ⟨x, hx⟩ : ∃ x, x = w1.heap.size := ⟨_, rfl⟩
  rw [← hx] at HS ⊢
  obtain ⟨s, hs⟩ : ∃ s, s = w2.heap.size := ⟨_, rfl⟩
  rw [← hs] at HS
  clear hs hx h2 HX
  go_wp2_with fail
  refine (unhide HS).mono ?_
  rintro e w3 ⟨rfl, h3⟩
  clear HS
  go_wp2_with fail
  go_returns
  exact ⟨f, x, s, rfl, h3⟩
/-- The examples' states. -/
def rw2 : List (Option Nat) := [some 0, some 1, none, none, none, none, none, none, none, none, none, none, none, none, none, none]
def hiL : List UInt8 := [104, 105]
def aw1 (s : NS) : AS := ⟨s, [⟨.rd 0, 1⟩, ⟨.wr 0, 1⟩], [Pi.np0], [], [rw2]⟩
def aw2 (s : NS) : AS := ⟨s, [⟨.rd 0, 1⟩, ⟨.wr 0, 1⟩], [⟨hiL, 1, 1⟩], [], [rw2]⟩
def aw3 (s : NS) : AS := ⟨s, [⟨.rd 0, 2⟩, ⟨.wr 0, 2⟩], [⟨hiL, 1, 1⟩], [], [rw2, rw2]⟩
def aw4 (s : NS) : AS := ⟨s, [⟨.rd 0, 2⟩, ⟨.wr 0, 2⟩], [Pi.np0], [], [rw2, rw2]⟩
theorem aw_pip (s : NS) : pipA (nwSt (A0 s)) 0 = aw1 s := rfl
theorem aw_pipR (s : NS) : pipR (nwSt (A0 s)) 0 = (0, 1, 0) := rfl
theorem aw_wri {s : NS} {nb : Nat} {N E : Int} {A' : AS} (h : WrtA (aw1 s) nb 0 1 hiL N E A') : N = 2 ∧ E = 0 ∧ A' = aw2 s := by
  cases h with
  | no h => cases h
  | via i t N E A' h1 h2 h3 =>
    have e1 : numL (row (aw1 s) 0) 1 = some 1 := rfl
    rw [e1] at h1
    injection h1 with h1
    subst h1
    have e2 : (aw1 s).th[1]? = some ⟨.wr 0, 1⟩ := rfl
    rw [e2] at h2
    injection h2 with h2
    subst h2
    cases h3 with
    | wr p => exact ⟨rfl, rfl, rfl⟩
theorem aw_frk (s : NS) : frkA (aw2 s) 0 = aw3 s := rfl
theorem aw_red (s : NS) : redT (aw3 s) 1 0 9 = hiL ∧ redE (aw3 s) 1 0 9 = 0 ∧ redA (aw3 s) 1 0 9 = aw4 s := ⟨rfl, rfl, rfl⟩
theorem aw_red2 (s : NS) : redT (aw4 s) 0 1 1 = [] ∧ redE (aw4 s) 0 1 1 = 33 ∧ redA (aw4 s) 0 1 1 = aw4 s := ⟨rfl, rfl, rfl⟩
set_option maxRecDepth 20000 in
set_option maxHeartbeats 4000000 in
theorem awake16_any (w : World) (E : EnvB w (Bas.of w)) : Calls Try.prog 5 #[] w fun e w' => e = .returned (.bool true) ∧ Below w.heap.size w w' := by
  have HB := hide (begun_any 9 9 w E (by decide) (by decide) (by decide) (by decide))
  clear E
  obtain ⟨s0, hs0⟩ : ∃ s0, s0 = rootS 9 := ⟨_, rfl⟩
  rw [← hs0] at HB
  clear hs0
  go_enter Try.func5, Try.ntmps5
  go_wp2_with fail
  refine (unhide HB).mono ?_
  rintro e w1 ⟨f, x, s, rfl, h1⟩
  have HP : Hid (Calls Try.prog 16 #[.pointer (some ⟨s, 0, none⟩)] w1 fun e w' => e = .returned (.tuple #[.int .i64 0, .int .i64 1, .int .i64 0]) ∧ Hid (∃ n q Z H L, FH w' f q Z (aw1 s0) 9 n (Bas.of w) x [s] H L ∧ AOk (aw1 s0) n ∧ n = 5)) := hide (by
    obtain ⟨q, Z, H, L, F⟩ := unhide h1
    have := spipe_any F (k := 0) rfl rfl (ok_nwSt (ok_0 s0 1)) (by decide)
    rw [aw_pip, aw_pipR] at this
    refine this.mono (fun e w' h => ⟨h.1, hide ?_⟩)
    obtain ⟨⟨H', L', F'⟩, K'⟩ := unhide h.2
    exact ⟨5, q, Z, H', L', F', K', rfl⟩)
  clear h1 HB
  go_wp2_with fail
  refine (unhide HP).mono ?_
  rintro e w2 ⟨rfl, h2⟩
  have HW : Hid (Calls Try.prog 8 #[.pointer (some ⟨s, 0, none⟩), .int .i64 1, .string ⟨#[104, 105]⟩] w2 fun e w' => e = .returned (.tuple #[.int .i64 2, .int .i64 0]) ∧ Hid (∃ n q Z H L, FH w' f q Z (aw2 s0) 9 n (Bas.of w) x [s] H L ∧ AOk (aw2 s0) n ∧ n = 6)) := hide (by
    obtain ⟨n, q, Z, H, L, F, K, rfl⟩ := unhide h2
    refine (swrite_any F (k := 0) rfl rfl K (by decide) 1 hiL (by decide)).mono (fun e w' h => ?_)
    obtain ⟨N, E, e1, e2⟩ := h
    obtain ⟨A', H', e3, e4, e5⟩ := unhide e2
    obtain ⟨rfl, rfl, rfl⟩ := aw_wri e3
    exact ⟨e1, hide ⟨6, q, Z, H', L, e4, e5, rfl⟩⟩)
  clear h2 HP
  go_wp2_with fail
  refine (unhide HW).mono ?_
  rintro e w3 ⟨rfl, h3⟩
  have HF : Hid (Calls Try.prog 17 #[.pointer (some ⟨s, 0, none⟩)] w3 fun e w' => e = .returned (.pointer (some ⟨w3.heap.size, 0, none⟩)) ∧ Hid (∃ n q Z H L, FH w' f q Z (aw3 s0) 9 n (Bas.of w) x [s, w3.heap.size] H L ∧ AOk (aw3 s0) n ∧ n = 22)) := hide (by
    obtain ⟨n, q, Z, H, L, F, K, rfl⟩ := unhide h3
    have := sfork_any F (k := 0) rfl rfl K (by decide)
    rw [aw_frk] at this
    refine this.mono (fun e w' h => ⟨h.1, hide ?_⟩)
    obtain ⟨⟨H', F'⟩, K'⟩ := unhide h.2
    exact ⟨22, q, Z, H', L, F', K', rfl⟩)
  obtain ⟨c, hc⟩ : ∃ c, c = w3.heap.size := ⟨_, rfl⟩
  rw [← hc] at HF
  clear h3 HW hc
  go_wp2_with fail
  refine (unhide HF).mono ?_
  rintro e w4 ⟨rfl, h4⟩
  have HR : Hid (Calls Try.prog 18 #[.pointer (some ⟨c, 0, none⟩), .int .i64 0, .int .i64 9] w4 fun e w' => e = .returned (.tuple #[.string ⟨#[104, 105]⟩, .int .i64 0]) ∧ Hid (∃ n q Z H L, FH w' f q Z (aw4 s0) 9 n (Bas.of w) x [s, c] H L ∧ AOk (aw4 s0) n ∧ n = 22)) := hide (by
    obtain ⟨n, q, Z, H, L, F, K, rfl⟩ := unhide h4
    have := sread_any F (k := 1) rfl rfl K 0 9
    rw [(aw_red s0).1, (aw_red s0).2.1, (aw_red s0).2.2] at this
    refine this.mono (fun e w' h => ⟨h.1, hide ?_⟩)
    obtain ⟨H', F', K'⟩ := unhide h.2
    exact ⟨22, q, Z, H', L, F', K', rfl⟩)
  clear h4 HF
  go_wp2_with fail
  refine (unhide HR).mono ?_
  rintro e w5 ⟨rfl, h5⟩
  have HR2 : Hid (Calls Try.prog 18 #[.pointer (some ⟨s, 0, none⟩), .int .i64 1, .int .i64 1] w5 fun e w' => e = .returned (.tuple #[.string ⟨#[]⟩, .int .i64 33]) ∧ Hid (∃ n q Z H L, FH w' f q Z (aw4 s0) 9 n (Bas.of w) x [s, c] H L ∧ AOk (aw4 s0) n ∧ n = 22)) := hide (by
    obtain ⟨n, q, Z, H, L, F, K, rfl⟩ := unhide h5
    have := sread_any F (k := 0) rfl rfl K 1 1
    rw [(aw_red2 s0).1, (aw_red2 s0).2.1, (aw_red2 s0).2.2] at this
    refine this.mono (fun e w' h => ⟨h.1, hide ?_⟩)
    obtain ⟨H', F', K'⟩ := unhide h.2
    exact ⟨22, q, Z, H', L, F', K', rfl⟩)
  clear h5 HR
  go_wp2_with fail
  refine (unhide HR2).mono ?_
  rintro e w6 ⟨rfl, h6⟩
  have HO : Hid (∀ W, Below w6.heap.size w6 W → Calls Try.prog 10 #[.pointer (some ⟨x, 0, none⟩)] W fun e w' => e = .returned (.int .i64 2) ∧ Below w.heap.size w w') := hide (fun W hW => by
    obtain ⟨n, q, Z, H, L, F, K, rfl⟩ := unhide h6
    refine (xopen_any (F.below hW)).mono (fun e w' h => ⟨h.1, ?_⟩)
    rw [h.2]
    exact (F.below hW).mx.env.bel)
  clear h6 HR2
  go_wp2_with fail
  refine (unhide HO _ (by first | exact Below.refl _ _ | exact below_drew _ _)).mono ?_
  rintro e w7 ⟨rfl, h7⟩
  have H7 := hide h7
  clear h7 HO
  go_wp2_with fail
  go_ret
  exact ⟨rfl, unhide H7⟩

end Go.Proofs.Ytemologkibcdoaa

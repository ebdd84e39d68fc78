/-
  Numbers of open files: a call of the law's, of any kind: what it leaves is a tree and sets as before, and no name that nobody holds.
-/
import Derived.Test.YtemologkibcdoaaGreatDoorFdEnd1
import Derived.Test.YtemologkibcdoaaGreatDoorM42
namespace Go.Proofs.YtemologkibcdoaaGreatDoor
open Go.RowKit Go.Maps

theorem FH.apart {w : World} {f q nb n x : Nat} {B : Bas} {Z : Nat → Prop} {A : AS} {sb : List Nat} {H : Hp} {L : Fay} (F : FH w f q Z A nb n B x sb H L) {w' : World} {S : Nat → Prop} (hg : GrownS w w' S) (h1 : ∀ k, S k → ¬ Z k) (h2 : ∀ k, S k → k ≠ f) (h3 : ∀ k, S k → B.tn k) : FH w' f q Z A nb n B x sb H L :=
  ⟨⟨⟨F.mx.fx.nd.grownS hg (fun k _ hk hs => h1 k hs hk.1) (fun k hs => h3 k hs), F.mx.fx.blk.grownS hg (fun hs => h2 f hs rfl), F.mx.fx.no, fun k hk => F.mx.fx.new k (Nat.le_trans hg.size hk)⟩, fun b o h => (F.mx.blk b o h).grownS hg (fun hs => h1 b hs (F.mx.out b o h).1), F.mx.out, F.mx.tn⟩, F.li⟩
theorem grownS_set (w : World) {b i : Nat} {S : Nat → Prop} (hb : S b) (v : Value) : GrownS w (w.setCell ⟨b, i, none⟩ v) S := (GrownS.of (S := fun k => k = b) (grown_setCell w ⟨b, i, none⟩ v) (fun k e => by injection e)).mono (fun k _ e => e ▸ hb)
theorem GrownS.setc {w w1 : World} {S : Nat → Prop} (h : GrownS w w1 S) {b i : Nat} (hb : S b) (v : Value) : GrownS w (w1.setCell ⟨b, i, none⟩ v) S := h.trans (grownS_set w1 hb v)
theorem GrownS.drew {w w1 : World} {S : Nat → Prop} (h : GrownS w w1 S) : GrownS w w1.drew S := h.trans (grownS_of_below (below_drew w1 1))
theorem three_c (w : World) (a c : Obj) (cs : Array Value) (ty : Nat) : Blk (((w.alloc a).alloc c).alloc (.cells cs ty)) (w.heap.size + 2) ty cs := by
  have := Blk.new ((w.alloc a).alloc c) ty cs
  have e : ((w.alloc a).alloc c).heap.size = w.heap.size + 2 := by simp
  rwa [e] at this
theorem three_a (w : World) (a c : Obj) (cs : Array Value) (ty : Nat) : Blk (((w.alloc (.cells cs ty)).alloc a).alloc c) w.heap.size ty cs := by
  have h0 := Blk.new w ty cs
  have h1 : Blk ((w.alloc (.cells cs ty)).alloc a) w.heap.size ty cs := h0.below ((Below.refl _ _).alloc (Nat.le_refl _) _) h0.lt
  exact h1.below ((Below.refl _ _).alloc (Nat.le_refl _) _) h1.lt
theorem three_b (w : World) (a c : Obj) (cs : Array Value) (ty : Nat) : Blk (((w.alloc a).alloc (.cells cs ty)).alloc c) (w.heap.size + 1) ty cs := by
  have := Blk.new (w.alloc a) ty cs
  have e : (w.alloc a).heap.size = w.heap.size + 1 := by simp
  rw [e] at this
  exact this.below ((Below.refl _ _).alloc (Nat.le_refl _) _) this.lt
/-- The box that a call answers in. -/
def IsB (w : World) (b : Nat) : Prop := ∃ cs : Array Value, Blk w b 37 cs ∧ cs.size = 4
theorem IsB.setc {w : World} {b : Nat} (h : IsB w b) (c i : Nat) (v : Value) : IsB (w.setCell ⟨c, i, none⟩ v) b := by
  obtain ⟨cs, h1, h2⟩ := h
  by_cases e : b = c
  · subst e
    exact ⟨_, h1.set i v, by simpa using h2⟩
  · exact ⟨cs, h1.other (a := ⟨c, i, none⟩) e v, h2⟩
theorem IsB.drew {w : World} {b : Nat} (h : IsB w b) : IsB w.drew b := by
  obtain ⟨cs, h1, h2⟩ := h
  exact ⟨cs, h1.below (below_drew w 1) h1.lt, h2⟩
theorem do_end {Q : Ending → World → Prop} {a : Act} {W : World} {bR : Nat} (hp : a.tmps.getD 4 undef = .pointer (some ⟨bR, 0, none⟩)) (hd : a.defers = []) (h : IsB W bR) (hq : ∀ v, Q (.returned v) W) : bodyPost Tryz.prog Tryz.f10 Q Exit.ret a W := by
  obtain ⟨cs, h1, h2⟩ := h
  exact bodyPost_ret (results_cell_row (P := Tryz.prog) rfl _ _ bR 37 cs (0, 0) _ hp h1 Tryz.underlying37 rfl (by rw [h2]; kernel_rfl)) hd (hq _)
/-- What a call leaves. -/
def DoG (w : World) (f q : Nat) (Z : Nat → Prop) (nb n : Nat) (B : Bas) (x : Nat) (sb : List Nat) (m : Nat) : Prop := ∃ A H L, FH w f q Z A nb n B x sb H L ∧ AOk A n ∧ EI A m
def az : Array Value := #[.int .i64 0, .int .i64 0, .string .empty, .int .i64 0]
theorem doG {W3 w' : World} {f q nb n' N x m bX bR : Nat} {B : Bas} {Zu : Nat → Prop} {A' : AS} {sb : List Nat} {H' : Hp} {L' : Fay} (G : FH w' f q Zu A' nb n' ⟨B.w, W3, Zu⟩ x sb H' L') (K : AOk A' n') (I : EI A' m) (hn : n' ≤ N) (hX : Blk W3 bX 37 az) (hz : ¬ Zu bX) (hR : Blk W3 bR 37 az) (hzR : ¬ Zu bR) : (w'.cell? ⟨bX, 0, none⟩ = some (.int .i64 0) ∧ w'.cell? ⟨bX, 1, none⟩ = some (.int .i64 0) ∧ w'.cell? ⟨bX, 2, none⟩ = some (.string .empty) ∧ w'.cell? ⟨bX, 3, none⟩ = some (.int .i64 0) ∧ w'.cell? ⟨bR, 0, none⟩ = some (.int .i64 0) ∧ w'.cell? ⟨bR, 1, none⟩ = some (.int .i64 0) ∧ w'.cell? ⟨bR, 2, none⟩ = some (.string .empty) ∧ w'.cell? ⟨bR, 3, none⟩ = some (.int .i64 0) ∧ (∀ j, w'.frozen? ⟨bX, j, none⟩ = false) ∧ (∀ j, w'.frozen? ⟨bR, j, none⟩ = false) ∧ Hid (IsB w' bR)) ∧ Hid (DoG w' f q Zu nb N ⟨B.w, W3, Zu⟩ x sb m) := by
  have hb := hX.grownS G.mx.env.kept hz
  have hr := hR.grownS G.mx.env.kept hzR
  exact ⟨⟨hb.cell 0 rfl, hb.cell 1 rfl, hb.cell 2 rfl, hb.cell 3 rfl, hr.cell 0 rfl, hr.cell 1 rfl, hr.cell 2 rfl, hr.cell 3 rfl, hb.frozen, hr.frozen, hide ⟨_, hr, rfl⟩⟩, hide ⟨A', H', L', G.mono hn, K.mono hn, I⟩⟩
set_option maxRecDepth 20000 in
set_option maxHeartbeats 8000000 in
theorem do16_any {w : World} {f q nb n x : Nat} {B : Bas} {Z : Nat → Prop} {A : AS} {sb : List Nat} {H : Hp} {L : Fay} (F : FH w f q Z A nb n B x sb H L) {k b : Nat} {l : List (Option Nat)} (hb : sb[k]? = some b) (hl : A.st[k]? = some l) (K : AOk A n) (hn : n ≤ 7000) {m : Nat} (I : EI A m) (o : Op16) (ok : o.ok) (ht : o.text.length ≤ 500) : Calls Tryz.prog 10 #[.pointer (some ⟨b, 0, none⟩), .agg #[.int .i64 o.set, .int .i64 o.ask, .int .i64 o.fd, .int .i64 o.n, .string (BA o.text)]] w fun e w' => (∃ v, e = .returned v) ∧ Hid (DoG w' f q Z nb (n + 16) B x sb m) := by
  obtain ⟨set, ask, fd, n2, tx⟩ := o
  simp only at ht ok ⊢
  obtain ⟨W3, hW⟩ : ∃ W3, W3 = ((w.alloc (.cells #[.int .i64 set, .int .i64 ask, .int .i64 fd, .int .i64 n2, .string (BA tx)] 32)).alloc (.cells az 37)).alloc (.cells az 37) := ⟨_, rfl⟩
  have hW3 : W3.heap.size = w.heap.size + 3 := by rw [hW]; simp
  have hbel : Below w.heap.size w W3 := by rw [hW]; exact (((Below.refl _ w).alloc (Nat.le_refl _) _).alloc (by simp) _).alloc (by simp; omega) _
  obtain ⟨b0, hb0⟩ : ∃ b0, b0 = w.heap.size := ⟨_, rfl⟩
  obtain ⟨bR, hbR⟩ : ∃ bR, bR = w.heap.size + 1 := ⟨_, rfl⟩
  obtain ⟨bX, hbX⟩ : ∃ bX, bX = w.heap.size + 1 + 1 := ⟨_, rfl⟩
  have hX : Blk W3 bX 37 az := by rw [hW, hbX]; exact three_c w _ _ _ _
  have hR : Blk W3 bR 37 az := by rw [hW, hbR]; exact three_b w _ _ _ _
  have G0 := (F.renew hbel).rebased
  have hz : ∀ j, w.heap.size ≤ j → j < W3.heap.size → ¬ Zup w W3 Z j := fun j h1 h2 h => by
    rcases h with h | h
    · have := h.2; omega
    · omega
  have H0 : Blk W3 b0 32 #[.int .i64 set, .int .i64 ask, .int .i64 fd, .int .i64 n2, .string (BA tx)] := by
    rw [hW, hb0]
    exact three_a w _ _ _ _
  have c0 : W3.cell? ⟨b0, 1, none⟩ = some (.int .i64 ask) := H0.cell 1 rfl
  have c1 : W3.cell? ⟨b0, 2, none⟩ = some (.int .i64 fd) := H0.cell 2 rfl
  have c2 : W3.cell? ⟨b0, 3, none⟩ = some (.int .i64 n2) := H0.cell 3 rfl
  have c3 : W3.cell? ⟨b0, 4, none⟩ = some (.string (BA tx)) := H0.cell 4 rfl
  have hzX : ¬ Zup w W3 Z bX := hz bX (by omega) (by omega)
  have hzR : ¬ Zup w W3 Z bR := hz bR (by omega) (by omega)
  have HFIN : Hid (∀ w' wf, DoG w' f q (Zup w W3 Z) nb (n + 16) ⟨B.w, W3, Zup w W3 Z⟩ x sb m → GrownS w' wf (fun j => j = bR ∨ j = bX) → DoG wf f q Z nb (n + 16) B x sb m) := hide (fun w' wf h hg => by
    obtain ⟨A', H', L', G, K', I'⟩ := h
    have hne : ∀ j, (j = bR ∨ j = bX) → w.heap.size ≤ j ∧ j < W3.heap.size := fun j hj => by omega
    have G1 := ((F.renew hbel).back G).1
    have G2 := G1.apart hg (fun j hj => hz j (hne j hj).1 (hne j hj).2) (fun j hj e => by
      have := F.mx.fx.blk.lt
      have := (hne j hj).1
      omega) (fun j hj => F.mx.tn j (F.mx.new j (hne j hj).1))
    exact ⟨A', H', L', F.home hbel G2, K', I'⟩)
  have HG : Hid (∀ {w' : World} {A' : AS} {H' : Hp} {L' : Fay} {n' : Nat}, FH w' f q (Zup w W3 Z) A' nb n' ⟨B.w, W3, Zup w W3 Z⟩ x sb H' L' → AOk A' n' → EI A' m → n' ≤ n + 16 → (w'.cell? ⟨bX, 0, none⟩ = some (.int .i64 0) ∧ w'.cell? ⟨bX, 1, none⟩ = some (.int .i64 0) ∧ w'.cell? ⟨bX, 2, none⟩ = some (.string .empty) ∧ w'.cell? ⟨bX, 3, none⟩ = some (.int .i64 0) ∧ w'.cell? ⟨bR, 0, none⟩ = some (.int .i64 0) ∧ w'.cell? ⟨bR, 1, none⟩ = some (.int .i64 0) ∧ w'.cell? ⟨bR, 2, none⟩ = some (.string .empty) ∧ w'.cell? ⟨bR, 3, none⟩ = some (.int .i64 0) ∧ (∀ j, w'.frozen? ⟨bX, j, none⟩ = false) ∧ (∀ j, w'.frozen? ⟨bR, j, none⟩ = false) ∧ Hid (IsB w' bR)) ∧ Hid (DoG w' f q (Zup w W3 Z) nb (n + 16) ⟨B.w, W3, Zup w W3 Z⟩ x sb m)) := hide (fun G K' I' h => doG G K' I' h hX hzX hR hzR)
  have HC0 : Hid (Calls Tryz.prog 16 #[.pointer (some ⟨b, 0, none⟩), .int .i64 fd, .string (BA tx)] W3 fun e w' => (∃ E, e = .returned (.int .i64 E)) ∧ (w'.cell? ⟨bX, 0, none⟩ = some (.int .i64 0) ∧ w'.cell? ⟨bX, 1, none⟩ = some (.int .i64 0) ∧ w'.cell? ⟨bX, 2, none⟩ = some (.string .empty) ∧ w'.cell? ⟨bX, 3, none⟩ = some (.int .i64 0) ∧ w'.cell? ⟨bR, 0, none⟩ = some (.int .i64 0) ∧ w'.cell? ⟨bR, 1, none⟩ = some (.int .i64 0) ∧ w'.cell? ⟨bR, 2, none⟩ = some (.string .empty) ∧ w'.cell? ⟨bR, 3, none⟩ = some (.int .i64 0) ∧ (∀ j, w'.frozen? ⟨bX, j, none⟩ = false) ∧ (∀ j, w'.frozen? ⟨bR, j, none⟩ = false) ∧ Hid (IsB w' bR)) ∧ Hid (DoG w' f q (Zup w W3 Z) nb (n + 16) ⟨B.w, W3, Zup w W3 Z⟩ x sb m)) := hide ((stape_any G0 hb hl K (by omega) fd tx (by omega)).mono (fun e w' h => by
    obtain ⟨H', L', G, K'⟩ := unhide h.2
    exact ⟨⟨_, h.1⟩, unhide HG G K' (ei_tap I k fd tx) (by omega)⟩))
  have HC1 : Hid (Calls Tryz.prog 23 #[.pointer (some ⟨b, 0, none⟩), .int .i64 fd] W3 fun e w' => (∃ N E, e = .returned (.tuple #[.int .i64 N, .int .i64 E])) ∧ (w'.cell? ⟨bX, 0, none⟩ = some (.int .i64 0) ∧ w'.cell? ⟨bX, 1, none⟩ = some (.int .i64 0) ∧ w'.cell? ⟨bX, 2, none⟩ = some (.string .empty) ∧ w'.cell? ⟨bX, 3, none⟩ = some (.int .i64 0) ∧ w'.cell? ⟨bR, 0, none⟩ = some (.int .i64 0) ∧ w'.cell? ⟨bR, 1, none⟩ = some (.int .i64 0) ∧ w'.cell? ⟨bR, 2, none⟩ = some (.string .empty) ∧ w'.cell? ⟨bR, 3, none⟩ = some (.int .i64 0) ∧ (∀ j, w'.frozen? ⟨bX, j, none⟩ = false) ∧ (∀ j, w'.frozen? ⟨bR, j, none⟩ = false) ∧ Hid (IsB w' bR)) ∧ Hid (DoG w' f q (Zup w W3 Z) nb (n + 16) ⟨B.w, W3, Zup w W3 Z⟩ x sb m)) := hide ((ssink_any G0 hb hl K (by omega) fd).mono (fun e w' h => by
    obtain ⟨H', L', G, K'⟩ := unhide h.2
    exact ⟨⟨_, _, h.1⟩, unhide HG G K' (ei_sin I k fd) (by omega)⟩))
  have HC2 : Hid (Calls Tryz.prog 17 #[.pointer (some ⟨b, 0, none⟩), .int .i64 1, .string (BA tx), .int .i64 n2] W3 fun e w' => (∃ N E, e = .returned (.tuple #[.int .i64 N, .int .i64 E])) ∧ (w'.cell? ⟨bX, 0, none⟩ = some (.int .i64 0) ∧ w'.cell? ⟨bX, 1, none⟩ = some (.int .i64 0) ∧ w'.cell? ⟨bX, 2, none⟩ = some (.string .empty) ∧ w'.cell? ⟨bX, 3, none⟩ = some (.int .i64 0) ∧ w'.cell? ⟨bR, 0, none⟩ = some (.int .i64 0) ∧ w'.cell? ⟨bR, 1, none⟩ = some (.int .i64 0) ∧ w'.cell? ⟨bR, 2, none⟩ = some (.string .empty) ∧ w'.cell? ⟨bR, 3, none⟩ = some (.int .i64 0) ∧ (∀ j, w'.frozen? ⟨bX, j, none⟩ = false) ∧ (∀ j, w'.frozen? ⟨bR, j, none⟩ = false) ∧ Hid (IsB w' bR)) ∧ Hid (DoG w' f q (Zup w W3 Z) nb (n + 16) ⟨B.w, W3, Zup w W3 Z⟩ x sb m)) := hide ((sopen_any G0 hb hl K (by omega) 1 tx n2 (by decide) (by omega)).mono (fun e w' h => by
    obtain ⟨N, E, h1, h2⟩ := h
    obtain ⟨A', H', L', ho, G, K'⟩ := unhide h2
    exact ⟨⟨N, E, h1⟩, unhide HG G K' (ei_opn I F.mx.fx.nd.ok ho) (by omega)⟩))
  have HC3 : Hid (Calls Tryz.prog 24 #[.pointer (some ⟨b, 0, none⟩)] W3 fun e w' => (∃ N M E, e = .returned (.tuple #[.int .i64 N, .int .i64 M, .int .i64 E])) ∧ (w'.cell? ⟨bX, 0, none⟩ = some (.int .i64 0) ∧ w'.cell? ⟨bX, 1, none⟩ = some (.int .i64 0) ∧ w'.cell? ⟨bX, 2, none⟩ = some (.string .empty) ∧ w'.cell? ⟨bX, 3, none⟩ = some (.int .i64 0) ∧ w'.cell? ⟨bR, 0, none⟩ = some (.int .i64 0) ∧ w'.cell? ⟨bR, 1, none⟩ = some (.int .i64 0) ∧ w'.cell? ⟨bR, 2, none⟩ = some (.string .empty) ∧ w'.cell? ⟨bR, 3, none⟩ = some (.int .i64 0) ∧ (∀ j, w'.frozen? ⟨bX, j, none⟩ = false) ∧ (∀ j, w'.frozen? ⟨bR, j, none⟩ = false) ∧ Hid (IsB w' bR)) ∧ Hid (DoG w' f q (Zup w W3 Z) nb (n + 16) ⟨B.w, W3, Zup w W3 Z⟩ x sb m)) := hide ((spipe_any G0 hb hl K (by omega)).mono (fun e w' h => by
    obtain ⟨⟨H', L', G⟩, K'⟩ := unhide h.2
    exact ⟨⟨_, _, _, h.1⟩, unhide HG G K' (ei_pip I k) (by omega)⟩))
  have HC4 : Hid (Calls Tryz.prog 27 #[.pointer (some ⟨b, 0, none⟩), .int .i64 fd, .int .i64 n2] W3 fun e w' => (∃ E, e = .returned (.int .i64 E)) ∧ (w'.cell? ⟨bX, 0, none⟩ = some (.int .i64 0) ∧ w'.cell? ⟨bX, 1, none⟩ = some (.int .i64 0) ∧ w'.cell? ⟨bX, 2, none⟩ = some (.string .empty) ∧ w'.cell? ⟨bX, 3, none⟩ = some (.int .i64 0) ∧ w'.cell? ⟨bR, 0, none⟩ = some (.int .i64 0) ∧ w'.cell? ⟨bR, 1, none⟩ = some (.int .i64 0) ∧ w'.cell? ⟨bR, 2, none⟩ = some (.string .empty) ∧ w'.cell? ⟨bR, 3, none⟩ = some (.int .i64 0) ∧ (∀ j, w'.frozen? ⟨bX, j, none⟩ = false) ∧ (∀ j, w'.frozen? ⟨bR, j, none⟩ = false) ∧ Hid (IsB w' bR)) ∧ Hid (DoG w' f q (Zup w W3 Z) nb (n + 16) ⟨B.w, W3, Zup w W3 Z⟩ x sb m)) := hide ((sdup_any G0 hb hl K (by omega) fd n2).mono (fun e w' h => by
    obtain ⟨H', G, K'⟩ := unhide h.2
    exact ⟨⟨_, h.1⟩, unhide HG G K' (ei_dup I k fd n2) (by omega)⟩))
  have HC5 : Hid (Calls Tryz.prog 28 #[.pointer (some ⟨b, 0, none⟩), .int .i64 fd] W3 fun e w' => (∃ E, e = .returned (.int .i64 E)) ∧ (w'.cell? ⟨bX, 0, none⟩ = some (.int .i64 0) ∧ w'.cell? ⟨bX, 1, none⟩ = some (.int .i64 0) ∧ w'.cell? ⟨bX, 2, none⟩ = some (.string .empty) ∧ w'.cell? ⟨bX, 3, none⟩ = some (.int .i64 0) ∧ w'.cell? ⟨bR, 0, none⟩ = some (.int .i64 0) ∧ w'.cell? ⟨bR, 1, none⟩ = some (.int .i64 0) ∧ w'.cell? ⟨bR, 2, none⟩ = some (.string .empty) ∧ w'.cell? ⟨bR, 3, none⟩ = some (.int .i64 0) ∧ (∀ j, w'.frozen? ⟨bX, j, none⟩ = false) ∧ (∀ j, w'.frozen? ⟨bR, j, none⟩ = false) ∧ Hid (IsB w' bR)) ∧ Hid (DoG w' f q (Zup w W3 Z) nb (n + 16) ⟨B.w, W3, Zup w W3 Z⟩ x sb m)) := hide ((sclose_any G0 hb hl K (by omega) fd).mono (fun e w' h => by
    obtain ⟨H', G, K'⟩ := unhide h.2
    exact ⟨⟨_, h.1⟩, unhide HG G K' (ei_drop I k fd) (by omega)⟩))
  have HC6 : Hid (Calls Tryz.prog 18 #[.pointer (some ⟨b, 0, none⟩), .int .i64 fd, .int .i64 n2] W3 fun e w' => (∃ t E, e = .returned (.tuple #[.string t, .int .i64 E])) ∧ (w'.cell? ⟨bX, 0, none⟩ = some (.int .i64 0) ∧ w'.cell? ⟨bX, 1, none⟩ = some (.int .i64 0) ∧ w'.cell? ⟨bX, 2, none⟩ = some (.string .empty) ∧ w'.cell? ⟨bX, 3, none⟩ = some (.int .i64 0) ∧ w'.cell? ⟨bR, 0, none⟩ = some (.int .i64 0) ∧ w'.cell? ⟨bR, 1, none⟩ = some (.int .i64 0) ∧ w'.cell? ⟨bR, 2, none⟩ = some (.string .empty) ∧ w'.cell? ⟨bR, 3, none⟩ = some (.int .i64 0) ∧ (∀ j, w'.frozen? ⟨bX, j, none⟩ = false) ∧ (∀ j, w'.frozen? ⟨bR, j, none⟩ = false) ∧ Hid (IsB w' bR)) ∧ Hid (DoG w' f q (Zup w W3 Z) nb (n + 16) ⟨B.w, W3, Zup w W3 Z⟩ x sb m)) := hide ((sread_any G0 hb hl K fd n2).mono (fun e w' h => by
    obtain ⟨H', G, K'⟩ := unhide h.2
    exact ⟨⟨_, _, h.1⟩, unhide HG G K' (ei_read I k fd n2) (by omega)⟩))
  have HC7 : Hid (Calls Tryz.prog 19 #[.pointer (some ⟨b, 0, none⟩), .int .i64 fd, .string (BA tx)] W3 fun e w' => (∃ N E, e = .returned (.tuple #[.int .i64 N, .int .i64 E])) ∧ (w'.cell? ⟨bX, 0, none⟩ = some (.int .i64 0) ∧ w'.cell? ⟨bX, 1, none⟩ = some (.int .i64 0) ∧ w'.cell? ⟨bX, 2, none⟩ = some (.string .empty) ∧ w'.cell? ⟨bX, 3, none⟩ = some (.int .i64 0) ∧ w'.cell? ⟨bR, 0, none⟩ = some (.int .i64 0) ∧ w'.cell? ⟨bR, 1, none⟩ = some (.int .i64 0) ∧ w'.cell? ⟨bR, 2, none⟩ = some (.string .empty) ∧ w'.cell? ⟨bR, 3, none⟩ = some (.int .i64 0) ∧ (∀ j, w'.frozen? ⟨bX, j, none⟩ = false) ∧ (∀ j, w'.frozen? ⟨bR, j, none⟩ = false) ∧ Hid (IsB w' bR)) ∧ Hid (DoG w' f q (Zup w W3 Z) nb (n + 16) ⟨B.w, W3, Zup w W3 Z⟩ x sb m)) := hide ((swrite_any G0 hb hl K (by omega) fd tx (by omega)).mono (fun e w' h => by
    obtain ⟨N, E, h1, h2⟩ := h
    obtain ⟨A', H', ho, G, K'⟩ := unhide h2
    exact ⟨⟨N, E, h1⟩, unhide HG G K' (ei_write I ho) (by omega)⟩))
  have HC9 : Hid (Calls Tryz.prog 12 #[.pointer (some ⟨b, 0, none⟩)] W3 fun e w' => (e = .returned (.tuple #[])) ∧ (w'.cell? ⟨bX, 0, none⟩ = some (.int .i64 0) ∧ w'.cell? ⟨bX, 1, none⟩ = some (.int .i64 0) ∧ w'.cell? ⟨bX, 2, none⟩ = some (.string .empty) ∧ w'.cell? ⟨bX, 3, none⟩ = some (.int .i64 0) ∧ w'.cell? ⟨bR, 0, none⟩ = some (.int .i64 0) ∧ w'.cell? ⟨bR, 1, none⟩ = some (.int .i64 0) ∧ w'.cell? ⟨bR, 2, none⟩ = some (.string .empty) ∧ w'.cell? ⟨bR, 3, none⟩ = some (.int .i64 0) ∧ (∀ j, w'.frozen? ⟨bX, j, none⟩ = false) ∧ (∀ j, w'.frozen? ⟨bR, j, none⟩ = false) ∧ Hid (IsB w' bR)) ∧ Hid (DoG w' f q (Zup w W3 Z) nb (n + 16) ⟨B.w, W3, Zup w W3 Z⟩ x sb m)) := hide ((send_any G0 hb hl K (by omega)).mono (fun e w' h => by
    obtain ⟨⟨H', G⟩, K', _⟩ := unhide h.2
    exact ⟨h.1, unhide HG G K' (ei_end I k) (by omega)⟩))
  have HN := unhide HG G0 K I (by omega)
  have r0 : W3.cell? ⟨bR, 0, none⟩ = some (.int .i64 0) := hR.cell 0 rfl
  have HW : Hid (W3 = ((w.alloc (.cells #[.int .i64 set, .int .i64 ask, .int .i64 fd, .int .i64 n2, .string (BA tx)] 32)).alloc (.cells #[.int .i64 0, .int .i64 0, .string ⟨#[]⟩, .int .i64 0] 37)).alloc (.cells #[.int .i64 0, .int .i64 0, .string ⟨#[]⟩, .int .i64 0] 37)) := hide hW
  have HB := hide hb0
  have HBR := hide hbR
  have HBX := hide hbX
  have hne : bX ≠ bR := by omega
  clear F K I G0 hz H0 hX hR hzX hzR HG ok ht hb hl hn hW hb0 hbR hbX hW3 hbel
  by_cases h0 : ask = 0
  · subst h0
    clear HN HC1 HC2 HC3 HC4 HC5 HC6 HC7 HC9
    go_enter Tryz.func10, Tryz.ntmps10
    go_upto_region 2 with fail
    rw [← unhide HW, ← unhide HBX, ← unhide HBR, ← unhide HB]
    clear HW HBX HBR HB
    go_wp2_with fail
    refine (unhide HC0).mono ?_
    rintro e w1 ⟨⟨E, rfl⟩, ⟨q0, q1, q2, q3, p0, p1, p2, p3, fX, fR, hB⟩, h1⟩
    clear HC0
    go_wp2_with fail
    refine do_end (bR := bR) rfl rfl (by repeat (first | with_reducible exact unhide hB | with_reducible refine IsB.setc ?_ _ _ _ | with_reducible refine IsB.drew ?_)) (fun v => ?_)
    exact ⟨⟨_, rfl⟩, hide (unhide HFIN _ _ (unhide h1) (by repeat (first | with_reducible exact grownS_refl _ _ | with_reducible refine GrownS.setc ?_ (by first | exact .inl rfl | exact .inr rfl) _ | with_reducible refine GrownS.drew ?_)))⟩
  by_cases h1 : ask = 1
  · subst h1
    clear HN HC0 HC2 HC3 HC4 HC5 HC6 HC7 HC9
    clear h0
    go_enter Tryz.func10, Tryz.ntmps10
    go_upto_region 2 with fail
    rw [← unhide HW, ← unhide HBX, ← unhide HBR, ← unhide HB]
    clear HW HBX HBR HB
    go_wp2_with fail
    refine (unhide HC1).mono ?_
    rintro e w1 ⟨⟨N, E, rfl⟩, ⟨q0, q1, q2, q3, p0, p1, p2, p3, fX, fR, hB⟩, h1⟩
    clear HC1
    go_wp2_with fail
    refine do_end (bR := bR) rfl rfl (by repeat (first | with_reducible exact unhide hB | with_reducible refine IsB.setc ?_ _ _ _ | with_reducible refine IsB.drew ?_)) (fun v => ?_)
    exact ⟨⟨_, rfl⟩, hide (unhide HFIN _ _ (unhide h1) (by repeat (first | with_reducible exact grownS_refl _ _ | with_reducible refine GrownS.setc ?_ (by first | exact .inl rfl | exact .inr rfl) _ | with_reducible refine GrownS.drew ?_)))⟩
  by_cases h2 : ask = 2
  · subst h2
    clear HN HC0 HC1 HC3 HC4 HC5 HC6 HC7 HC9
    clear h0 h1
    go_enter Tryz.func10, Tryz.ntmps10
    go_upto_region 2 with fail
    rw [← unhide HW, ← unhide HBX, ← unhide HBR, ← unhide HB]
    clear HW HBX HBR HB
    go_wp2_with fail
    refine (unhide HC2).mono ?_
    rintro e w1 ⟨⟨N, E, rfl⟩, ⟨q0, q1, q2, q3, p0, p1, p2, p3, fX, fR, hB⟩, h1⟩
    clear HC2
    go_wp2_with fail
    refine do_end (bR := bR) rfl rfl (by repeat (first | with_reducible exact unhide hB | with_reducible refine IsB.setc ?_ _ _ _ | with_reducible refine IsB.drew ?_)) (fun v => ?_)
    exact ⟨⟨_, rfl⟩, hide (unhide HFIN _ _ (unhide h1) (by repeat (first | with_reducible exact grownS_refl _ _ | with_reducible refine GrownS.setc ?_ (by first | exact .inl rfl | exact .inr rfl) _ | with_reducible refine GrownS.drew ?_)))⟩
  by_cases h3 : ask = 3
  · subst h3
    clear HN HC0 HC1 HC2 HC4 HC5 HC6 HC7 HC9
    clear h0 h1 h2
    go_enter Tryz.func10, Tryz.ntmps10
    go_upto_region 2 with fail
    rw [← unhide HW, ← unhide HBX, ← unhide HBR, ← unhide HB]
    clear HW HBX HBR HB
    go_wp2_with fail
    refine (unhide HC3).mono ?_
    rintro e w1 ⟨⟨N, M, E, rfl⟩, ⟨q0, q1, q2, q3, p0, p1, p2, p3, fX, fR, hB⟩, h1⟩
    clear HC3
    go_wp2_with fail
    refine do_end (bR := bR) rfl rfl (by repeat (first | with_reducible exact unhide hB | with_reducible refine IsB.setc ?_ _ _ _ | with_reducible refine IsB.drew ?_)) (fun v => ?_)
    exact ⟨⟨_, rfl⟩, hide (unhide HFIN _ _ (unhide h1) (by repeat (first | with_reducible exact grownS_refl _ _ | with_reducible refine GrownS.setc ?_ (by first | exact .inl rfl | exact .inr rfl) _ | with_reducible refine GrownS.drew ?_)))⟩
  by_cases h4 : ask = 4
  · subst h4
    clear HN HC0 HC1 HC2 HC3 HC5 HC6 HC7 HC9
    clear h0 h1 h2 h3
    go_enter Tryz.func10, Tryz.ntmps10
    go_upto_region 2 with fail
    rw [← unhide HW, ← unhide HBX, ← unhide HBR, ← unhide HB]
    clear HW HBX HBR HB
    go_wp2_with fail
    refine (unhide HC4).mono ?_
    rintro e w1 ⟨⟨E, rfl⟩, ⟨q0, q1, q2, q3, p0, p1, p2, p3, fX, fR, hB⟩, h1⟩
    clear HC4
    go_wp2_with fail
    refine do_end (bR := bR) rfl rfl (by repeat (first | with_reducible exact unhide hB | with_reducible refine IsB.setc ?_ _ _ _ | with_reducible refine IsB.drew ?_)) (fun v => ?_)
    exact ⟨⟨_, rfl⟩, hide (unhide HFIN _ _ (unhide h1) (by repeat (first | with_reducible exact grownS_refl _ _ | with_reducible refine GrownS.setc ?_ (by first | exact .inl rfl | exact .inr rfl) _ | with_reducible refine GrownS.drew ?_)))⟩
  by_cases h5 : ask = 5
  · subst h5
    clear HN HC0 HC1 HC2 HC3 HC4 HC6 HC7 HC9
    clear h0 h1 h2 h3 h4
    go_enter Tryz.func10, Tryz.ntmps10
    go_upto_region 2 with fail
    rw [← unhide HW, ← unhide HBX, ← unhide HBR, ← unhide HB]
    clear HW HBX HBR HB
    go_wp2_with fail
    refine (unhide HC5).mono ?_
    rintro e w1 ⟨⟨E, rfl⟩, ⟨q0, q1, q2, q3, p0, p1, p2, p3, fX, fR, hB⟩, h1⟩
    clear HC5
    go_wp2_with fail
    refine do_end (bR := bR) rfl rfl (by repeat (first | with_reducible exact unhide hB | with_reducible refine IsB.setc ?_ _ _ _ | with_reducible refine IsB.drew ?_)) (fun v => ?_)
    exact ⟨⟨_, rfl⟩, hide (unhide HFIN _ _ (unhide h1) (by repeat (first | with_reducible exact grownS_refl _ _ | with_reducible refine GrownS.setc ?_ (by first | exact .inl rfl | exact .inr rfl) _ | with_reducible refine GrownS.drew ?_)))⟩
  by_cases h6 : ask = 6
  · subst h6
    clear HN HC0 HC1 HC2 HC3 HC4 HC5 HC7 HC9
    clear h0 h1 h2 h3 h4 h5
    go_enter Tryz.func10, Tryz.ntmps10
    go_upto_region 2 with fail
    rw [← unhide HW, ← unhide HBX, ← unhide HBR, ← unhide HB]
    clear HW HBX HBR HB
    go_wp2_with fail
    refine (unhide HC6).mono ?_
    rintro e w1 ⟨⟨t, E, rfl⟩, ⟨q0, q1, q2, q3, p0, p1, p2, p3, fX, fR, hB⟩, h1⟩
    clear HC6
    go_wp2_with fail
    refine do_end (bR := bR) rfl rfl (by repeat (first | with_reducible exact unhide hB | with_reducible refine IsB.setc ?_ _ _ _ | with_reducible refine IsB.drew ?_)) (fun v => ?_)
    exact ⟨⟨_, rfl⟩, hide (unhide HFIN _ _ (unhide h1) (by repeat (first | with_reducible exact grownS_refl _ _ | with_reducible refine GrownS.setc ?_ (by first | exact .inl rfl | exact .inr rfl) _ | with_reducible refine GrownS.drew ?_)))⟩
  by_cases h7 : ask = 7
  · subst h7
    clear HN HC0 HC1 HC2 HC3 HC4 HC5 HC6 HC9
    clear h0 h1 h2 h3 h4 h5 h6
    go_enter Tryz.func10, Tryz.ntmps10
    go_upto_region 2 with fail
    rw [← unhide HW, ← unhide HBX, ← unhide HBR, ← unhide HB]
    clear HW HBX HBR HB
    go_wp2_with fail
    refine (unhide HC7).mono ?_
    rintro e w1 ⟨⟨N, E, rfl⟩, ⟨q0, q1, q2, q3, p0, p1, p2, p3, fX, fR, hB⟩, h1⟩
    clear HC7
    go_wp2_with fail
    refine do_end (bR := bR) rfl rfl (by repeat (first | with_reducible exact unhide hB | with_reducible refine IsB.setc ?_ _ _ _ | with_reducible refine IsB.drew ?_)) (fun v => ?_)
    exact ⟨⟨_, rfl⟩, hide (unhide HFIN _ _ (unhide h1) (by repeat (first | with_reducible exact grownS_refl _ _ | with_reducible refine GrownS.setc ?_ (by first | exact .inl rfl | exact .inr rfl) _ | with_reducible refine GrownS.drew ?_)))⟩
  by_cases h9 : ask = 9
  · subst h9
    clear HN HC0 HC1 HC2 HC3 HC4 HC5 HC6 HC7
    clear h0 h1 h2 h3 h4 h5 h6 h7
    go_enter Tryz.func10, Tryz.ntmps10
    go_upto_region 2 with fail
    rw [← unhide HW, ← unhide HBX, ← unhide HBR, ← unhide HB]
    clear HW HBX HBR HB
    go_wp2_with fail
    refine (unhide HC9).mono ?_
    rintro e w1 ⟨rfl, ⟨q0, q1, q2, q3, p0, p1, p2, p3, fX, fR, hB⟩, h1⟩
    clear HC9
    go_wp2_with fail
    refine do_end (bR := bR) rfl rfl (by repeat (first | with_reducible exact unhide hB | with_reducible refine IsB.setc ?_ _ _ _ | with_reducible refine IsB.drew ?_)) (fun v => ?_)
    exact ⟨⟨_, rfl⟩, hide (unhide HFIN _ _ (unhide h1) (by repeat (first | with_reducible exact grownS_refl _ _ | with_reducible refine GrownS.setc ?_ (by first | exact .inl rfl | exact .inr rfl) _ | with_reducible refine GrownS.drew ?_)))⟩
  have g0 : (ask == 0) = false := by simpa using h0
  have g1 : (ask == 1) = false := by simpa using h1
  have g2 : (ask == 2) = false := by simpa using h2
  have g3 : (ask == 3) = false := by simpa using h3
  have g4 : (ask == 4) = false := by simpa using h4
  have g5 : (ask == 5) = false := by simpa using h5
  have g6 : (ask == 6) = false := by simpa using h6
  have g7 : (ask == 7) = false := by simpa using h7
  have g9 : (ask == 9) = false := by simpa using h9
  obtain ⟨⟨q0, q1, q2, q3, p0, p1, p2, p3, fX, fR, hB⟩, h1⟩ := HN
  clear HC0 HC1 HC2 HC3 HC4 HC5 HC6 HC7 HC9
  go_enter Tryz.func10, Tryz.ntmps10
  go_upto_region 2 with fail
  rw [← unhide HW, ← unhide HBX, ← unhide HBR, ← unhide HB]
  clear HW HBX HBR HB
  go_wp2_with fail
  refine do_end (bR := bR) rfl rfl (by repeat (first | with_reducible exact unhide hB | with_reducible refine IsB.setc ?_ _ _ _ | with_reducible refine IsB.drew ?_)) (fun v => ?_)
  exact ⟨⟨_, rfl⟩, hide (unhide HFIN _ _ (unhide h1) (by repeat (first | with_reducible exact grownS_refl _ _ | with_reducible refine GrownS.setc ?_ (by first | exact .inl rfl | exact .inr rfl) _ | with_reducible refine GrownS.drew ?_)))⟩

end Go.Proofs.YtemologkibcdoaaGreatDoor

/- 'await' and 'add' on the lexer's whole state.; A Word or an Io: the lexer's 'word'.; A token: the lexer's 'token'. -/
import Derived.Test.YtojjfdobilkknaaGreatDoorM32
import Derived.Test.YtojjfdobilkknaaGreatDoorM06
import Derived.Test.YtojjfdobilkknaaGreatDoorM12
import Derived.Test.YtojjfdobilkknaaGreatDoorM08
import Derived.Maps.RangeWalk
set_option maxRecDepth 100000
set_option maxHeartbeats 40000000
namespace Go.Proofs.YtojjfdobilkknaaGreatDoor
open Go.RowKit
theorem awaitL_flt (st : LS) (word : List UInt8) : (awaitL st word).flt = st.flt ∧ (awaitL st word).blm = st.blm ∧ (awaitL st word).rest = st.rest ∧ (awaitL st word).toks.length = st.toks.length ∧ (awaitL st word).wait.length ≤ st.wait.length + 1 := by
 unfold awaitL
 split
 ·exact ⟨rfl, rfl, rfl, rfl, by omega⟩
 ·split
  ·refine ⟨rfl, rfl, rfl, List.length_modify _ _ _, ?_⟩
   show (st.wait ++ [_]).length ≤ _
   rw [List.length_append]
   exact ler _
  ·exact ⟨rfl, rfl, rfl, rfl, by omega⟩
theorem await_none (w : World) (b : Nat) (v u : Value) (s : ByteArray) (r : Nat) (ps ks : List Nat) (st : LS) (word : List UInt8) (h : LexAt w b v u s r ps ks st) (ht : st.toks = []) :
 Calls Tryz.prog 74 #[.pointer (some ⟨b, 0, none⟩), .string (BA word)] w fun e w' => e = .returned (.tuple #[]) ∧ w' = w := by
 obtain ⟨ad, cap, hv, _⟩ := ptr_shape h.toks.row rfl
 have hpl : ps.length = 0 := by rw [h.toks.len, ht]; rfl
 rw [hpl] at hv
 subst hv
 have c5 : w.cell? ⟨b, 5, none⟩ = some (.slice ad 0 cap) := h.rdr.blk.cell 5 (by simp)
 clear h ht hpl
 go_enter Tryz.func74, Tryz.ntmps74
 go_wp2
 refine bodyPost_ret (res0 rfl _ _) rfl ?_
 exact ⟨rfl, rfl⟩
theorem await_other (w : World) (b : Nat) (v u : Value) (s : ByteArray) (r : Nat) (ps ks : List Nat) (st : LS) (word : List UInt8) (q : Nat) (t : Tok) (h : LexAt w b v u s r ps ks st) (hl : st.toks.length ≤ 100000) (hp : ps[st.toks.length - 1]? = some q) (ht : st.toks[st.toks.length - 1]? = some t) (h1 : t.text ≠ ⟨#[60, 60]⟩) (h2 : t.text ≠ ⟨#[60, 60, 45]⟩) :
 Calls Tryz.prog 74 #[.pointer (some ⟨b, 0, none⟩), .string (BA word)] w fun e w' => e = .returned (.tuple #[]) ∧ Below w.heap.size w w' := by
 obtain ⟨n, hn⟩ : ∃ n, n = st.toks.length - 1 := ⟨_, rfl⟩
 have hlen1 : 0 < st.toks.length := by
  have := (List.getElem?_eq_some_iff.1 ht).1
  omega
 rw [← hn] at hp ht
 obtain ⟨hbq, hqb⟩ := h.toks.blk n q t hp ht
 obtain ⟨ad, cap, hv, hsh⟩ := ptr_shape h.toks.row rfl
 obtain ⟨g, hg0, hgl, hcg⟩ := hsh n q hp
 subst hg0
 have hpsl : ps.length = n + 1 := by rw [h.toks.len]; omega
 rw [hpsl] at hv
 subst hv
 obtain ⟨tx, htx⟩ : ∃ tx, tx = t.text := ⟨_, rfl⟩
 rw [← htx] at h1 h2
 have c5 : w.cell? ⟨b, 5, none⟩ = some (.slice (some ⟨g, 0, none⟩) (n + 1) cap) := h.rdr.blk.cell 5 (by simp)
 have q1 : w.cell? ⟨q, 1, none⟩ = some (.string tx) := by rw [htx]; exact hqb.cell 1 rfl
 have hnn : n + 1 ≤ 100000 := by omega
 have hwr : IntKind.i64.wrap (((n + 1 : Nat) : Int) - 1) = (n : Int) := by rw [IntKind.wrap_i64]; omega
 have hz : (((n + 1 : Nat) : Int) == 0) = false := by rw [beq_eq_false_iff_ne]; omega
 have hidx : (n : Int) < ((n + 1 : Nat) : Int) := by omega
 have hn0 : (0 : Int) ≤ (n : Int) := by omega
 have e1 : (tx.toList == [60, 60]) = false := by
  rw [beq_eq_false_iff_ne, ByteArray.toList_eq]
  intro e
  exact h1 (by rw [← BA_of tx, e]; rfl)
 have e2 : (tx.toList == [60, 60, 45]) = false := by
  rw [beq_eq_false_iff_ne, ByteArray.toList_eq]
  intro e
  exact h2 (by rw [← BA_of tx, e]; rfl)
 clear h hqb ht hp htx hn hsh hgl hlen1 hpsl hl h1 h2
 go_enter Tryz.func74, Tryz.ntmps74
 go_wp2_with fail
 go_quiet (fail)
 go_wp2
 refine bodyPost_ret (res0 rfl _ _) rfl ?_
 exact ⟨rfl, bdr _ _⟩
theorem await_state (w : World) (b : Nat) (v u : Value) (s : ByteArray) (r : Nat) (ps ks : List Nat) (st : LS) (word : List UInt8) (m : Int) (h : LexAt w b v u s r ps ks st) (hw : st.wait.length ≤ 100000) (hl : st.toks.length ≤ 100000) (hwd : word.length ≤ 100000) (hm : w.cell? ⟨1, 0, none⟩ = some (.int .i64 m)) (hb1 : 1 < b) :
 Calls Tryz.prog 74 #[.pointer (some ⟨b, 0, none⟩), .string (BA word)] w fun e w' => e = .returned (.tuple #[]) ∧ ∃ u' ks', LexAt w' b v u' s r ps ks' (awaitL st word) ∧ GrownS w w' (fun y => b ≤ y) := by
 by_cases h0 : st.toks = []
 ·refine (await_none w b v u s r ps ks st word h h0).mono ?_
  rintro e w' ⟨rfl, rfl⟩
  refine ⟨rfl, u, ks, ?_, gsb (Below.refl _ _)⟩
  have : awaitL st word = st := by unfold awaitL; rw [h0]; rfl
  rw [this]
  exact h
 ·have hlen : 0 < st.toks.length := List.length_pos_iff.2 h0
  obtain ⟨t, ht⟩ : ∃ t, st.toks[st.toks.length - 1]? = some t := ⟨_, List.getElem?_eq_getElem (by omega)⟩
  obtain ⟨q, hq⟩ : ∃ q, ps[st.toks.length - 1]? = some q := ⟨_, List.getElem?_eq_getElem (by rw [h.toks.len]; omega)⟩
  by_cases h1 : t.text = ⟨#[60, 60]⟩
  ·exact await_two w b v u s r ps ks st word m q t h hw hl hwd hm hb1 hq ht h1
  by_cases h2 : t.text = ⟨#[60, 60, 45]⟩
  ·exact await_dash w b v u s r ps ks st word m q t h hw hl hwd hm hb1 hq ht h2
  refine (await_other w b v u s r ps ks st word q t h hl hq ht h1 h2).mono ?_
  rintro e w' ⟨rfl, hb⟩
  refine ⟨rfl, u, ks, ?_, gsb hb⟩
  have : awaitL st word = st := by
   unfold awaitL
   rw [List.getLast?_eq_getElem?, ht]
   show (if t.text = BA [60, 60] ∨ t.text = BA [60, 60, 45] then _ else st) = st
   rw [if_neg]
   rintro (e | e)
   ·exact h1 e
   ·exact h2 e
  rw [this]
  exact h.below hb (ler _)
theorem add_state (w : World) (b : Nat) (v u : Value) (s : ByteArray) (r : Nat) (ps ks : List Nat) (st : LS) (kind pos : Int) (text : List UInt8) (h : LexAt w b v u s r ps ks st) (hf : st.flt = 0) (hl : st.toks.length ≤ 100000) :
 Calls Tryz.prog 52 #[.pointer (some ⟨b, 0, none⟩), .int .i64 kind, .string (BA text), .int .i64 pos] w fun e w' => e = .returned (.tuple #[]) ∧ ∃ v' ps', LexAt w' b v' u s r ps' ks (st.add kind text pos) ∧ GrownS w w' (fun y => b ≤ y) := by
 have hr := h.rdr
 rw [hf, h.zero hf] at hr
 refine (add_any w b v u s r 0 ps st.toks kind pos (BA text) hr h.toks hl).mono ?_
 rintro e w' ⟨rfl, v', q, h1, h2, h3, hq⟩
 refine ⟨rfl, v', ps ++ [q], ⟨?_, h2, ?_, h.rest, h.zero⟩, h3.mono ?_⟩
 ·show Rdr w' b 71 [v', u] s r 0 st.flt st.blm
  rw [hf, h.zero hf]
  exact h1
 ·refine (h.wts.grownS h3 ?_ ?_).more [q]
  ·rintro k hk (rfl | e)
   ·exact own_type h.wts.row h.rdr.blk (by decide) hk.symm
   ·exact arows_ne h.wts.row h.toks.row (by decide) hk e
  ·rintro k hk (rfl | e)
   ·have := (h.wts.at hk).1; omega
   ·obtain ⟨_, C, hC⟩ := h.wts.at hk
    exact own_type h.toks.row hC (by decide) e
 ·rintro k _ (rfl | e)
  ·exact ler _
  ·have := (World.ownsRow.lt h.toks.row k e.symm).1
   omega
structure LexX (w : World) (b : Nat) (v u : Value) (s : ByteArray) (r d : Nat) (ps ks : List Nat) (st : LS) : Prop where
 rdr : Rdr w b 71 [v, u] s r d st.flt st.blm
 toks : Toks w (b + 1) v ps st.toks
 wts : Wts w (b + 1) u ks ps st.wait
 rest : st.flt = 0 → s.data.toList.drop r = st.rest
 zero : st.flt = 0 → st.blm = 0
 deep : st.flt = 0 → d = 0
theorem LexAt.x {w : World} {b : Nat} {v u : Value} {s : ByteArray} {r : Nat} {ps ks : List Nat} {st : LS} (h : LexAt w b v u s r ps ks st) : LexX w b v u s r 0 ps ks st := ⟨h.rdr, h.toks, h.wts, h.rest, h.zero, fun _ => rfl⟩
theorem LexX.ok {w : World} {b : Nat} {v u : Value} {s : ByteArray} {r d : Nat} {ps ks : List Nat} {st : LS} (h : LexX w b v u s r d ps ks st) (hf : st.flt = 0) : LexAt w b v u s r ps ks st := by
 have := h.rdr
 rw [h.deep hf] at this
 exact ⟨this, h.toks, h.wts, h.rest, h.zero⟩
theorem LexX.below {w w1 : World} {b : Nat} {v u : Value} {s : ByteArray} {r d : Nat} {ps ks : List Nat} {st : LS} (h : LexX w b v u s r d ps ks st) {n : Nat} (hb : Below n w w1) (hn : w.heap.size ≤ n) : LexX w1 b v u s r d ps ks st := by
 have hg : GrownS w w1 (fun _ => False) := ⟨hb.os, hb.tape, hb.output, hb.size, fun k hk _ => hb.block k (by omega)⟩
 exact ⟨h.rdr.grownS hg (fun e => e), h.toks.grownS hg (fun _ _ e => e) (fun _ _ e => e), h.wts.grownS hg (fun _ _ e => e) (fun _ _ e => e), h.rest, h.zero, h.deep⟩
theorem LexX.move {w w1 : World} {b : Nat} {v u : Value} {s : ByteArray} {r d r1 d1 : Nat} {ps ks : List Nat} {st st1 : LS} (h : LexX w b v u s r d ps ks st) (hg : w.grownBy w1 (some b)) (hr : Rdr w1 b 71 [v, u] s r1 d1 st1.flt st1.blm) (ht : st1.toks = st.toks) (hw : st1.wait = st.wait) (h1 : st1.flt = 0 → s.data.toList.drop r1 = st1.rest) (h2 : st1.flt = 0 → st1.blm = 0) (h3 : st1.flt = 0 → d1 = 0) : LexX w1 b v u s r1 d1 ps ks st1 := by
 have g : GrownS w w1 (fun y => y = b) := GrownS.of hg (fun x e => by simpa using e)
 refine ⟨hr, ?_, ?_, h1, h2, h3⟩
 ·rw [ht]
  exact h.toks.grownS g (fun y hy e => own_type h.toks.row h.rdr.blk (by decide) (by rw [← e]; exact hy.symm)) (fun p hp e => by have := (h.toks.at hp).1; omega)
 ·rw [hw]
  exact h.wts.grownS g (fun y hy e => own_type h.wts.row h.rdr.blk (by decide) (by rw [← e]; exact hy.symm)) (fun k hk e => by have := (h.wts.at hk).1; omega)
theorem grownS_own {w w1 : World} {b : Nat} (hg : w.grownBy w1 (some b)) : GrownS w w1 (fun y => b ≤ y) := GrownS.of hg (fun x e => Nat.le_of_eq (by simpa using e.symm))
theorem hasP_head (l : List UInt8) (x : UInt8) : Lib.hasPrefix l [x] = (l.head? == some x) := by
 cases l with
 | nil => rfl
 | cons c l =>
   rw [hasP_one, List.head?_cons]
   by_cases h : c = x
   ·subst h; simp
   ·rw [beq_false_of_ne h]
    exact (beq_false_of_ne (fun e => h (by simpa using e))).symm
theorem word_state (w : World) (b : Nat) (v u : Value) (s : ByteArray) (r : Nat) (ps ks : List Nat) (st : LS) (m : Int) (h : LexAt w b v u s r ps ks st) (hf : st.flt = 0) (hw : st.wait.length ≤ 100000) (hl : st.toks.length ≤ 100000) (hm : w.cell? ⟨1, 0, none⟩ = some (.int .i64 m)) (hb1 : 1 < b) :
 Calls Tryz.prog 53 #[.pointer (some ⟨b, 0, none⟩)] w fun e w' => e = .returned (.tuple #[]) ∧ ∃ v' u' r' d' ps' ks', LexX w' b v' u' s r' d' ps' ks' (wordTok s.size st) ∧ GrownS w w' (fun y => b ≤ y) := by
 have hr := h.rdr
 rw [hf, h.zero hf] at hr
 have hrle := hr.le
 have hsl := hr.len
 have HRS := hide (h.rest hf)
 obtain ⟨T, hT⟩ : ∃ T, T = wordL (s.size - r + 1) (s.data.toList.drop r) := ⟨_, rfl⟩
 have HTR := hide hT.symm
 have c2 := hr.c2
 have HR0 := hide hr
 have HX := hide h.x
 have HM := hide hm
 have hbl := hr.blk.lt
 clear hT hr h hm
 go_enter Tryz.func53, Tryz.ntmps53
 go_wp2_with fail
 clear c2
 go_loopw [] (fun wr => ∃ (q d : Nat) (f bl : Int), Hid (Rdr wr b 71 [v, u] s q d f bl ∧ w.grownBy wr (some b) ∧ (f = 0 → r ≤ q) ∧ ((f = 0 ∧ bl = 0 ∧ d = 0 ∧ ∃ F, s.size - q + 1 ≤ F ∧ wordL F (s.data.toList.drop q) = T) ∨ (f ≠ 0 ∧ ∃ mm, T = .err f mm ∧ bl = ((s.size - mm.length : Nat) : Int))))) (fun wr => msr s b wr)
 case atStart => exact ⟨r, 0, 0, 0, hide ⟨uh HR0, World.grownBy.refl w _, fun _ => ler _, .inl ⟨rfl, rfl, rfl, s.size - r + 1, ler _, uh HTR⟩⟩⟩
 case round =>
  obtain ⟨q, d, f, bl, HI⟩ := hrel
  obtain ⟨hR, hG, hrq, hcase⟩ := uh HI
  clear HI HR0
  have HG := hide hG
  clear hG
  rcases hcase with ⟨rfl, rfl, rfl, F, hF, hTT⟩ | ⟨hfe, mm, hTE, hBL⟩
  ·have hrq := hrq rfl
   have HMS := hide hR.msr0
   have hqle := hR.le
   have hmo := more_any (hR.drewN 1)
   have c1 := hR.c1
   have c2 := hR.c2
   have HR := hide hR
   clear hR
   obtain ⟨F, rfl⟩ : ∃ g, F = g + 1 := ⟨F - 1, by omega⟩
   have HTT := hide hTT
   clear hTT
   by_cases hq : q < s.size
   ·have hmb : moreB s q 0 = true := by unfold moreB; rw [decide_eq_true hq]; rfl
    rw [hmb] at hmo
    have HMO := hide hmo
    have hq' : (q : Int) < (s.size : Int) := by omega
    have hq0 : (0 : Int) ≤ (q : Int) := by omega
    clear hmo hmb
    rcases Bool.eq_false_or_eq_true (metB (s[q].toNat : Int)) with hme | hme
    ·have HME : Hid (∀ W, Calls Tryz.prog 71 #[.int .u8 (s[q].toNat : Int)] W fun e w' => e = .returned (.bool true) ∧ Below W.heap.size W w') := hide (fun W => by
      have := meta_any (s[q].toNat : Int) W (byte_range _).1 (byte_range _).2
      rw [hme] at this
      exact this)
     have HTQ : Hid (wordL (s.size - r + 1) (s.data.toList.drop r) = .ok (s.data.toList.drop q)) := hide (by
      rw [uh HTR, ← uh HTT, drop_at hq, wordL_cons, if_pos hme])
     clear hme HMS
     go_wp2_with fail
     refine wp_region_held_drew (S := fun w' => w'.cell? ⟨b, 1, none⟩ = some (.string s) ∧ w'.cell? ⟨b, 2, none⟩ = some (.int .i64 (q : Int))) (by kernel_rfl) ⟨c1, c2⟩ (fun hHeld => ?_)
     refine wpAnyH_take (i := 0) (oi := ⟨some 9, .move (.tmp 0), 91, "tokens.go:82", #[], none⟩) (v := ?_) rfl (by kernel_rfl) (by kernel_rfl) (by kernel_rfl) (fun _ _ _ h => h) (Or.inl ⟨by rfl, ?_⟩) (by assumption) ?_
     rotate_left
     ·intro w hSw; (try dsimp only at hSw); go_simp; (try with_reducible rfl)
     go_frame
     refine wpAnyH_take (i := 1) (oi := ⟨some 10, .nilCheck (.tmp 9), 0, "tokens.go:82", #[⟨0, .data⟩], none⟩) (v := ?_) rfl (by kernel_rfl) (by kernel_rfl) (by kernel_rfl) (fun _ _ _ h => h) (Or.inl ⟨by rfl, ?_⟩) (by assumption) ?_
     rotate_left
     ·intro w hSw; (try dsimp only at hSw); go_simp; (try with_reducible rfl)
     go_frame
     refine wpAnyH_take (i := 2) (oi := ⟨some 11, .fieldAddr 71 (.tmp 10) 0, 0, "tokens.go:82", #[⟨1, .data⟩], none⟩) (v := ?_) rfl (by kernel_rfl) (by kernel_rfl) (by kernel_rfl) (fun _ _ _ h => h) (Or.inl ⟨by rfl, ?_⟩) (by assumption) ?_
     rotate_left
     ·intro w hSw; (try dsimp only at hSw); go_simp; (try with_reducible rfl)
     go_frame
     refine wpAnyH_ready (rs := [3]) (by kernel_rfl) (by simp) ?_
     refine AllReadyH.cons (o := ⟨some 12, .call { callee := Callee.value (Operand.func 28), args := #[.tmp 11], argTypes := #[67] }, 4, "tokens.go:82", #[⟨2, .data⟩], none⟩) rfl (fun KK hKK => ?_) AllReadyH.nil
     go_simp
     refine (uh HMO).mono ?_
     rintro en w1 ⟨rfl, k1, hw1⟩
     have H1 : Hid (Rdr w1 b 71 [v, u] s q 0 0 0) := hide (by rw [hw1]; exact ((uh HR).drewN 1).drewN k1)
     have G1 : Hid (w.grownBy w1 (some b)) := hide (by rw [hw1]; exact (uh HG).trans (grown_but ((gdn wr 1).trans (gdn _ k1)) (some b)))
     clear hw1
     have y1 := (uh H1).c1
     have y2 := (uh H1).c2
     refine hKK.out _ _ ⟨y1, y2⟩ (fun hHeld => ?_)
     clear hKK KK
     try go_frame
     refine wpAnyH_take (i := 4) (oi := ⟨some 13, .move (.tmp 12), 4, "tokens.go:82", #[⟨3, .data⟩, ⟨3, .chain⟩], none⟩) (v := ?_) rfl (by kernel_rfl) (by kernel_rfl) (by kernel_rfl) (fun _ _ _ h => h) (Or.inl ⟨by rfl, ?_⟩) (by assumption) ?_
     rotate_left
     ·intro w hSw; (try dsimp only at hSw); go_simp; (try with_reducible rfl)
     go_frame
     refine wpAnyH_take (i := 5) (oi := ⟨some 14, .move (.tmp 0), 91, "tokens.go:82", #[⟨4, .guard⟩], some (4, true)⟩) (v := ?_) rfl (by kernel_rfl) (by kernel_rfl) (by kernel_rfl) (fun _ _ _ h => h) (Or.inl ⟨by rfl, ?_⟩) (by assumption) ?_
     rotate_left
     ·intro w hSw; (try dsimp only at hSw); go_simp; (try with_reducible rfl)
     go_frame
     refine wpAnyH_take (i := 6) (oi := ⟨some 15, .nilCheck (.tmp 14), 0, "tokens.go:82", #[⟨5, .data⟩, ⟨4, .guard⟩], some (4, true)⟩) (v := ?_) rfl (by kernel_rfl) (by kernel_rfl) (by kernel_rfl) (fun _ _ _ h => h) (Or.inl ⟨by rfl, ?_⟩) (by assumption) ?_
     rotate_left
     ·intro w hSw; (try dsimp only at hSw); go_simp; (try with_reducible rfl)
     go_frame
     refine wpAnyH_take (i := 7) (oi := ⟨some 16, .fieldAddr 71 (.tmp 15) 0, 0, "tokens.go:82", #[⟨6, .data⟩, ⟨4, .guard⟩], some (4, true)⟩) (v := ?_) rfl (by kernel_rfl) (by kernel_rfl) (by kernel_rfl) (fun _ _ _ h => h) (Or.inl ⟨by rfl, ?_⟩) (by assumption) ?_
     rotate_left
     ·intro w hSw; (try dsimp only at hSw); go_simp; (try with_reducible rfl)
     go_frame
     refine wpAnyH_take (i := 8) (oi := ⟨some 17, .fieldAddr 67 (.tmp 16) 1, 0, "tokens.go:82", #[⟨7, .data⟩, ⟨4, .guard⟩], some (4, true)⟩) (v := ?_) rfl (by kernel_rfl) (by kernel_rfl) (by kernel_rfl) (fun _ _ _ h => h) (Or.inl ⟨by rfl, ?_⟩) (by assumption) ?_
     rotate_left
     ·intro w hSw; (try dsimp only at hSw); go_simp; (try with_reducible rfl)
     go_frame
     refine wpAnyH_take (i := 9) (oi := ⟨some 18, .load 9 (.tmp 17), 9, "tokens.go:82", #[⟨8, .data⟩, ⟨4, .guard⟩], some (4, true)⟩) (v := ?_) rfl (by kernel_rfl) (by kernel_rfl) (by kernel_rfl) (fun _ _ _ h => h) (Or.inl ⟨by rfl, ?_⟩) (by assumption) ?_
     rotate_left
     ·intro w hSw; (try dsimp only at hSw); go_simp; (try with_reducible rfl)
     go_frame
     refine wpAnyH_take (i := 10) (oi := ⟨some 19, .move (.tmp 0), 91, "tokens.go:82", #[⟨4, .guard⟩], some (4, true)⟩) (v := ?_) rfl (by kernel_rfl) (by kernel_rfl) (by kernel_rfl) (fun _ _ _ h => h) (Or.inl ⟨by rfl, ?_⟩) (by assumption) ?_
     rotate_left
     ·intro w hSw; (try dsimp only at hSw); go_simp; (try with_reducible rfl)
     go_frame
     refine wpAnyH_take (i := 11) (oi := ⟨some 20, .nilCheck (.tmp 19), 0, "tokens.go:82", #[⟨10, .data⟩, ⟨4, .guard⟩], some (4, true)⟩) (v := ?_) rfl (by kernel_rfl) (by kernel_rfl) (by kernel_rfl) (fun _ _ _ h => h) (Or.inl ⟨by rfl, ?_⟩) (by assumption) ?_
     rotate_left
     ·intro w hSw; (try dsimp only at hSw); go_simp; (try with_reducible rfl)
     go_frame
     refine wpAnyH_take (i := 12) (oi := ⟨some 21, .fieldAddr 71 (.tmp 20) 0, 0, "tokens.go:82", #[⟨11, .data⟩, ⟨4, .guard⟩], some (4, true)⟩) (v := ?_) rfl (by kernel_rfl) (by kernel_rfl) (by kernel_rfl) (fun _ _ _ h => h) (Or.inl ⟨by rfl, ?_⟩) (by assumption) ?_
     rotate_left
     ·intro w hSw; (try dsimp only at hSw); go_simp; (try with_reducible rfl)
     go_frame
     refine wpAnyH_take (i := 13) (oi := ⟨some 22, .fieldAddr 67 (.tmp 21) 2, 0, "tokens.go:82", #[⟨12, .data⟩, ⟨4, .guard⟩], some (4, true)⟩) (v := ?_) rfl (by kernel_rfl) (by kernel_rfl) (by kernel_rfl) (fun _ _ _ h => h) (Or.inl ⟨by rfl, ?_⟩) (by assumption) ?_
     rotate_left
     ·intro w hSw; (try dsimp only at hSw); go_simp; (try with_reducible rfl)
     go_frame
     refine wpAnyH_take (i := 14) (oi := ⟨some 23, .load 3 (.tmp 22), 3, "tokens.go:82", #[⟨13, .data⟩, ⟨4, .guard⟩], some (4, true)⟩) (v := ?_) rfl (by kernel_rfl) (by kernel_rfl) (by kernel_rfl) (fun _ _ _ h => h) (Or.inl ⟨by rfl, ?_⟩) (by assumption) ?_
     rotate_left
     ·intro w hSw; (try dsimp only at hSw); go_simp; (try with_reducible rfl)
     go_frame
     refine wpAnyH_take (i := 15) (oi := ⟨some 24, .index 9 (.tmp 18) (.tmp 23), 5, "tokens.go:82", #[⟨9, .data⟩, ⟨14, .data⟩, ⟨4, .guard⟩], some (4, true)⟩) (v := ?_) rfl (by kernel_rfl) (by kernel_rfl) (by kernel_rfl) (fun _ _ _ h => h) (Or.inl ⟨by rfl, ?_⟩) (by assumption) ?_
     rotate_left
     ·intro w hSw; (try dsimp only at hSw); go_simp; (try with_reducible rfl)
     go_frame
     refine wpAnyH_ready (rs := [16]) (by kernel_rfl) (by simp) ?_
     refine AllReadyH.cons (o := ⟨some 25, .call { callee := Callee.value (Operand.func 71), args := #[.tmp 24], argTypes := #[5] }, 4, "tokens.go:82", #[⟨15, .data⟩, ⟨4, .chain⟩, ⟨4, .guard⟩], some (4, true)⟩) rfl (fun KK hKK => ?_) AllReadyH.nil
     go_simp
     refine (uh HME _).mono ?_
     rintro en w3 ⟨rfl, b3⟩
     have H3 := hide ((uh H1).kept (gob b3))
     have G3 := hide ((uh G1).trans (grown_but (gob b3) (some b)))
     clear b3
     have z1 := (uh H3).c1
     have z2 := (uh H3).c2
     refine hKK.out _ _ ⟨z1, z2⟩ (fun hHeld => ?_)
     clear hKK KK
     try go_frame
     refine wpAnyH_take (i := 17) (oi := ⟨some 26, .unOp UnOp.not 4 (.tmp 25), 4, "tokens.go:82", #[⟨16, .data⟩, ⟨4, .guard⟩], some (4, true)⟩) (v := ?_) rfl (by kernel_rfl) (by kernel_rfl) (by kernel_rfl) (fun _ _ _ h => h) (Or.inl ⟨by rfl, ?_⟩) (by assumption) ?_
     rotate_left
     ·intro w hSw; (try dsimp only at hSw); go_simp; (try with_reducible rfl)
     go_frame
     refine wpAnyH_take (i := 18) (oi := ⟨some 27, .pick (.tmp 13) (.tmp 26) (Operand.const (Value.bool false)), 4, "tokens.go:82", #[⟨4, .data⟩, ⟨17, .data⟩], none⟩) (v := ?_) rfl (by kernel_rfl) (by kernel_rfl) (by kernel_rfl) (fun _ _ _ h => h) (Or.inl ⟨by rfl, ?_⟩) (by assumption) ?_
     rotate_left
     ·intro w hSw; (try dsimp only at hSw); go_simp; (try with_reducible rfl)
     go_frame
     clear hHeld
     refine wpAnyH_done (by kernel_rfl) ?_ _
     have hq3 := (uh H3).le
     clear y1 y2 z1 z2 c1 c2
     have y1 := (uh H3).c1
     have y2 := (uh H3).c2
     have y3 := (uh H3).c3
     have hrq' : (r : Int) ≤ (q : Int) := by omega
     go_wp2_with fail
     go_quiet (fail)
     obtain ⟨w4, hw4⟩ : ∃ x, x = w3.drewN nq := ⟨_, rfl⟩
     rw [← hw4]
     have h4 : LexAt w4 b v u s q ps ks { st with rest := s.data.toList.drop q } := by
      refine LexX.ok ((uh HX).move (st1 := { st with rest := s.data.toList.drop q }) (d1 := 0) (r1 := q) (by rw [hw4]; exact (uh G3).trans (grown_but (gdn w3 nq) _)) ?_ rfl rfl (fun _ => rfl) (uh HX).zero (fun _ => rfl)) hf
      show Rdr w4 b 71 [v, u] s q 0 st.flt st.blm
      rw [hf, (uh HX).zero hf, hw4]
      exact (uh H3).drewN nq
     have g4 : GrownS w w4 (fun y => b ≤ y) := by rw [hw4]; exact grownS_own ((uh G3).trans (grown_but (gdn w3 nq) _))
     have H4 := hide h4
     have G4 := hide g4
     clear hw4 h4 g4 y1 y2 y3 H3 G3
     have hex : s.extract r q = BA ((s.data.toList.drop r).take (q - r)) := by
      have := extract_take s r (q - r)
      rwa [show r + (q - r) = q by omega] at this
     obtain ⟨word, hword⟩ : ∃ x, x = (s.data.toList.drop r).take (q - r) := ⟨_, rfl⟩
     rw [← hword] at hex
     rw [hex]
     have hwl : word.length ≤ 100000 := by rw [hword, List.length_take, List.length_drop, data_len]; omega
     have HWT : Hid (wordTok s.size st = if digsB word && ((s.data.toList.drop q).head? == some 60 || (s.data.toList.drop q).head? == some 62) then ({ st with rest := s.data.toList.drop q } : LS).add 4 word (r : Int) else (awaitL { st with rest := s.data.toList.drop q } word).add 1 word (r : Int)) := hide (by
      unfold wordTok
      rw [← uh HRS, List.length_drop, data_len, uh HTQ]
      simp only [List.length_drop, data_len]
      rw [show s.size - (s.size - r) = r by omega, show s.size - r - (s.size - q) = q - r by omega, ← hword])
     clear hword hex
     have HDG := hide (digits_any (BA word) w4 (by rw [BA_size]; exact hwl))
     rw [BA_list] at HDG
     go_wp2_with fail
     refine (uh HDG).mono ?_
     rintro en w5 ⟨rfl, hw5⟩
     rw [show w5 = w4 from hw5]
     clear hw5 HDG
     have hl4 : ({ st with rest := s.data.toList.drop q } : LS).toks.length ≤ 100000 := hl
     have hsl : (awaitL { st with rest := s.data.toList.drop q } word).toks.length ≤ 100000 := by rw [(awaitL_flt _ _).2.2.2.1]; exact hl
     have hsf : (awaitL { st with rest := s.data.toList.drop q } word).flt = 0 := by rw [(awaitL_flt _ _).1]; exact hf
     have hm4 : w4.cell? ⟨1, 0, none⟩ = some (.int .i64 m) := by
      rw [World.cell?_of_block ((uh G4).block 1 (by omega) (by omega))]
      exact uh HM
     have HSL := hide hsl
     have HSF := hide hsf
     clear hsl hsf
     cases hD : digsB word with
     | false =>
       rw [hD] at HWT
       have HAW := hide (await_state w4 b v u s q ps ks { st with rest := s.data.toList.drop q } word m (uh H4) hw hl4 hwl hm4 hb1)
       go_wp2_with fail
       refine (uh HAW).mono ?_
       rintro en w6 ⟨rfl, u6, ks6, h6, g6⟩
       have HAD := hide (add_state w6 b v u6 s q ps ks6 _ 1 (r : Int) word h6 (uh HSF) (uh HSL))
       have G6 := hide g6
       clear h6 g6 HAW
       go_wp2_with fail
       refine (uh HAD).mono ?_
       rintro en w7 ⟨rfl, v7, ps7, h7, g7⟩
       have H7 := hide h7
       have G7 := hide g7
       clear h7 g7 HAD
       go_wp2
       refine bodyPost_end (res0 rfl _ _) rfl ?_
       refine ⟨rfl, v7, u6, q, 0, ps7, ks6, ?_, (uh G4).trans ((uh G6).trans (uh G7))⟩
       rw [uh HWT]
       exact (uh H7).x
     | true =>
       rw [hD] at HWT
       have hr4 := (uh H4).rdr
       have HR4 := hide hr4
       clear hr4
       have HSE := hide (sees_any ⟨#[60]⟩ (uh HR4))
       have hp60 : Lib.hasPrefix (s.data.toList.drop q) [60] = ((s.data.toList.drop q).head? == some 60) := hasP_head _ _
       have hp62 : Lib.hasPrefix (s.data.toList.drop q) [62] = ((s.data.toList.drop q).head? == some 62) := hasP_head _ _
       rw [show (⟨#[60]⟩ : ByteArray).data.toList = [60] from rfl, hp60] at HSE
       cases hA : ((s.data.toList.drop q).head? == some 60) with
       | true =>
         rw [hA] at HSE HWT
         clear hp60 hp62
         go_wp2_with fail
         refine (uh HSE).mono ?_
         rintro en w6 ⟨rfl, k6, hw6⟩
         have h6 : LexAt w6 b v u s q ps ks { st with rest := s.data.toList.drop q } := by rw [hw6]; exact (uh H4).below (bdr _ _) (ler _)
         have G6 : Hid (GrownS w4 w6 (fun y => b ≤ y)) := hide (by rw [hw6]; exact gsb (bdr _ _))
         have HAD := hide (add_state w6 b v u s q ps ks _ 4 (r : Int) word h6 hf hl4)
         clear hw6 h6 HSE
         go_wp2_with fail
         refine (uh HAD).mono ?_
         rintro en w7 ⟨rfl, v7, ps7, h7, g7⟩
         have H7 := hide h7
         have G7 := hide g7
         clear h7 g7 HAD
         go_wp2
         refine bodyPost_ret (res0 rfl _ _) rfl ?_
         refine ⟨rfl, v7, u, q, 0, ps7, ks, ?_, (uh G4).trans ((uh G6).trans (uh G7))⟩
         rw [uh HWT]
         exact (uh H7).x
       | false =>
         rw [hA] at HSE HWT
         go_wp2_with fail
         refine (uh HSE).mono ?_
         rintro en w6 ⟨rfl, k6, hw6⟩
         have h6 : LexAt w6 b v u s q ps ks { st with rest := s.data.toList.drop q } := by rw [hw6]; exact (uh H4).below (bdr _ _) (ler _)
         have G6 : Hid (GrownS w4 w6 (fun y => b ≤ y)) := hide (by rw [hw6]; exact gsb (bdr _ _))
         have HSG := hide (sees_any ⟨#[62]⟩ h6.rdr)
         rw [show (⟨#[62]⟩ : ByteArray).data.toList = [62] from rfl, hp62] at HSG
         have H6 := hide h6
         clear hw6 h6 HSE hp60 hp62
         cases hB : ((s.data.toList.drop q).head? == some 62) with
         | true =>
           rw [hB] at HSG HWT
           go_wp2_with fail
           refine (uh HSG).mono ?_
           rintro en w8 ⟨rfl, k8, hw8⟩
           have h8 : LexAt w8 b v u s q ps ks { st with rest := s.data.toList.drop q } := by rw [hw8]; exact (uh H6).below (bdr _ _) (ler _)
           have G8 : Hid (GrownS w6 w8 (fun y => b ≤ y)) := hide (by rw [hw8]; exact gsb (bdr _ _))
           have HAD := hide (add_state w8 b v u s q ps ks _ 4 (r : Int) word h8 hf hl4)
           clear hw8 h8 HSG
           go_wp2_with fail
           refine (uh HAD).mono ?_
           rintro en w7 ⟨rfl, v7, ps7, h7, g7⟩
           have H7 := hide h7
           have G7 := hide g7
           clear h7 g7 HAD
           go_wp2
           refine bodyPost_ret (res0 rfl _ _) rfl ?_
           refine ⟨rfl, v7, u, q, 0, ps7, ks, ?_, (uh G4).trans ((uh G6).trans ((uh G8).trans (uh G7)))⟩
           rw [uh HWT]
           exact (uh H7).x
         | false =>
           rw [hB] at HSG HWT
           go_wp2_with fail
           refine (uh HSG).mono ?_
           rintro en w8 ⟨rfl, k8, hw8⟩
           have h8 : LexAt w8 b v u s q ps ks { st with rest := s.data.toList.drop q } := by rw [hw8]; exact (uh H6).below (bdr _ _) (ler _)
           have G8 : Hid (GrownS w6 w8 (fun y => b ≤ y)) := hide (by rw [hw8]; exact gsb (bdr _ _))
           have hm8 : w8.cell? ⟨1, 0, none⟩ = some (.int .i64 m) := by
            rw [World.cell?_of_block ((uh G8).block 1 (by have := (uh G6).size; have := (uh G4).size; omega) (by omega)), World.cell?_of_block ((uh G6).block 1 (by have := (uh G4).size; omega) (by omega))]
            exact hm4
           have HAW := hide (await_state w8 b v u s q ps ks { st with rest := s.data.toList.drop q } word m h8 hw hl4 hwl hm8 hb1)
           clear hw8 h8 HSG hm8
           go_wp2_with fail
           refine (uh HAW).mono ?_
           rintro en w9 ⟨rfl, u6, ks6, h9, g9⟩
           have HAD := hide (add_state w9 b v u6 s q ps ks6 _ 1 (r : Int) word h9 (uh HSF) (uh HSL))
           have G9 := hide g9
           clear h9 g9 HAW
           go_wp2_with fail
           refine (uh HAD).mono ?_
           rintro en w7 ⟨rfl, v7, ps7, h7, g7⟩
           have H7 := hide h7
           have G7 := hide g7
           clear h7 g7 HAD
           go_wp2
           refine bodyPost_end (res0 rfl _ _) rfl ?_
           refine ⟨rfl, v7, u6, q, 0, ps7, ks6, ?_, (uh G4).trans ((uh G6).trans ((uh G8).trans ((uh G9).trans (uh G7))))⟩
           rw [uh HWT]
           exact (uh H7).x
    ·have HME : Hid (∀ W, Calls Tryz.prog 71 #[.int .u8 (s[q].toNat : Int)] W fun e w' => e = .returned (.bool false) ∧ Below W.heap.size W w') := hide (fun W => by
      have := meta_any (s[q].toNat : Int) W (byte_range _).1 (byte_range _).2
      rw [hme] at this
      exact this)
     go_wp2_with fail
     refine wp_region_held_drew (S := fun w' => w'.cell? ⟨b, 1, none⟩ = some (.string s) ∧ w'.cell? ⟨b, 2, none⟩ = some (.int .i64 (q : Int))) (by kernel_rfl) ⟨c1, c2⟩ (fun hHeld => ?_)
     refine wpAnyH_take (i := 0) (oi := ⟨some 9, .move (.tmp 0), 91, "tokens.go:82", #[], none⟩) (v := ?_) rfl (by kernel_rfl) (by kernel_rfl) (by kernel_rfl) (fun _ _ _ h => h) (Or.inl ⟨by rfl, ?_⟩) (by assumption) ?_
     rotate_left
     ·intro w hSw; (try dsimp only at hSw); go_simp; (try with_reducible rfl)
     go_frame
     refine wpAnyH_take (i := 1) (oi := ⟨some 10, .nilCheck (.tmp 9), 0, "tokens.go:82", #[⟨0, .data⟩], none⟩) (v := ?_) rfl (by kernel_rfl) (by kernel_rfl) (by kernel_rfl) (fun _ _ _ h => h) (Or.inl ⟨by rfl, ?_⟩) (by assumption) ?_
     rotate_left
     ·intro w hSw; (try dsimp only at hSw); go_simp; (try with_reducible rfl)
     go_frame
     refine wpAnyH_take (i := 2) (oi := ⟨some 11, .fieldAddr 71 (.tmp 10) 0, 0, "tokens.go:82", #[⟨1, .data⟩], none⟩) (v := ?_) rfl (by kernel_rfl) (by kernel_rfl) (by kernel_rfl) (fun _ _ _ h => h) (Or.inl ⟨by rfl, ?_⟩) (by assumption) ?_
     rotate_left
     ·intro w hSw; (try dsimp only at hSw); go_simp; (try with_reducible rfl)
     go_frame
     refine wpAnyH_ready (rs := [3]) (by kernel_rfl) (by simp) ?_
     refine AllReadyH.cons (o := ⟨some 12, .call { callee := Callee.value (Operand.func 28), args := #[.tmp 11], argTypes := #[67] }, 4, "tokens.go:82", #[⟨2, .data⟩], none⟩) rfl (fun KK hKK => ?_) AllReadyH.nil
     go_simp
     refine (uh HMO).mono ?_
     rintro en w1 ⟨rfl, k1, hw1⟩
     have H1 : Hid (Rdr w1 b 71 [v, u] s q 0 0 0) := hide (by rw [hw1]; exact ((uh HR).drewN 1).drewN k1)
     have G1 : Hid (w.grownBy w1 (some b)) := hide (by rw [hw1]; exact (uh HG).trans (grown_but ((gdn wr 1).trans (gdn _ k1)) (some b)))
     clear hw1
     have y1 := (uh H1).c1
     have y2 := (uh H1).c2
     refine hKK.out _ _ ⟨y1, y2⟩ (fun hHeld => ?_)
     clear hKK KK
     try go_frame
     refine wpAnyH_take (i := 4) (oi := ⟨some 13, .move (.tmp 12), 4, "tokens.go:82", #[⟨3, .data⟩, ⟨3, .chain⟩], none⟩) (v := ?_) rfl (by kernel_rfl) (by kernel_rfl) (by kernel_rfl) (fun _ _ _ h => h) (Or.inl ⟨by rfl, ?_⟩) (by assumption) ?_
     rotate_left
     ·intro w hSw; (try dsimp only at hSw); go_simp; (try with_reducible rfl)
     go_frame
     refine wpAnyH_take (i := 5) (oi := ⟨some 14, .move (.tmp 0), 91, "tokens.go:82", #[⟨4, .guard⟩], some (4, true)⟩) (v := ?_) rfl (by kernel_rfl) (by kernel_rfl) (by kernel_rfl) (fun _ _ _ h => h) (Or.inl ⟨by rfl, ?_⟩) (by assumption) ?_
     rotate_left
     ·intro w hSw; (try dsimp only at hSw); go_simp; (try with_reducible rfl)
     go_frame
     refine wpAnyH_take (i := 6) (oi := ⟨some 15, .nilCheck (.tmp 14), 0, "tokens.go:82", #[⟨5, .data⟩, ⟨4, .guard⟩], some (4, true)⟩) (v := ?_) rfl (by kernel_rfl) (by kernel_rfl) (by kernel_rfl) (fun _ _ _ h => h) (Or.inl ⟨by rfl, ?_⟩) (by assumption) ?_
     rotate_left
     ·intro w hSw; (try dsimp only at hSw); go_simp; (try with_reducible rfl)
     go_frame
     refine wpAnyH_take (i := 7) (oi := ⟨some 16, .fieldAddr 71 (.tmp 15) 0, 0, "tokens.go:82", #[⟨6, .data⟩, ⟨4, .guard⟩], some (4, true)⟩) (v := ?_) rfl (by kernel_rfl) (by kernel_rfl) (by kernel_rfl) (fun _ _ _ h => h) (Or.inl ⟨by rfl, ?_⟩) (by assumption) ?_
     rotate_left
     ·intro w hSw; (try dsimp only at hSw); go_simp; (try with_reducible rfl)
     go_frame
     refine wpAnyH_take (i := 8) (oi := ⟨some 17, .fieldAddr 67 (.tmp 16) 1, 0, "tokens.go:82", #[⟨7, .data⟩, ⟨4, .guard⟩], some (4, true)⟩) (v := ?_) rfl (by kernel_rfl) (by kernel_rfl) (by kernel_rfl) (fun _ _ _ h => h) (Or.inl ⟨by rfl, ?_⟩) (by assumption) ?_
     rotate_left
     ·intro w hSw; (try dsimp only at hSw); go_simp; (try with_reducible rfl)
     go_frame
     refine wpAnyH_take (i := 9) (oi := ⟨some 18, .load 9 (.tmp 17), 9, "tokens.go:82", #[⟨8, .data⟩, ⟨4, .guard⟩], some (4, true)⟩) (v := ?_) rfl (by kernel_rfl) (by kernel_rfl) (by kernel_rfl) (fun _ _ _ h => h) (Or.inl ⟨by rfl, ?_⟩) (by assumption) ?_
     rotate_left
     ·intro w hSw; (try dsimp only at hSw); go_simp; (try with_reducible rfl)
     go_frame
     refine wpAnyH_take (i := 10) (oi := ⟨some 19, .move (.tmp 0), 91, "tokens.go:82", #[⟨4, .guard⟩], some (4, true)⟩) (v := ?_) rfl (by kernel_rfl) (by kernel_rfl) (by kernel_rfl) (fun _ _ _ h => h) (Or.inl ⟨by rfl, ?_⟩) (by assumption) ?_
     rotate_left
     ·intro w hSw; (try dsimp only at hSw); go_simp; (try with_reducible rfl)
     go_frame
     refine wpAnyH_take (i := 11) (oi := ⟨some 20, .nilCheck (.tmp 19), 0, "tokens.go:82", #[⟨10, .data⟩, ⟨4, .guard⟩], some (4, true)⟩) (v := ?_) rfl (by kernel_rfl) (by kernel_rfl) (by kernel_rfl) (fun _ _ _ h => h) (Or.inl ⟨by rfl, ?_⟩) (by assumption) ?_
     rotate_left
     ·intro w hSw; (try dsimp only at hSw); go_simp; (try with_reducible rfl)
     go_frame
     refine wpAnyH_take (i := 12) (oi := ⟨some 21, .fieldAddr 71 (.tmp 20) 0, 0, "tokens.go:82", #[⟨11, .data⟩, ⟨4, .guard⟩], some (4, true)⟩) (v := ?_) rfl (by kernel_rfl) (by kernel_rfl) (by kernel_rfl) (fun _ _ _ h => h) (Or.inl ⟨by rfl, ?_⟩) (by assumption) ?_
     rotate_left
     ·intro w hSw; (try dsimp only at hSw); go_simp; (try with_reducible rfl)
     go_frame
     refine wpAnyH_take (i := 13) (oi := ⟨some 22, .fieldAddr 67 (.tmp 21) 2, 0, "tokens.go:82", #[⟨12, .data⟩, ⟨4, .guard⟩], some (4, true)⟩) (v := ?_) rfl (by kernel_rfl) (by kernel_rfl) (by kernel_rfl) (fun _ _ _ h => h) (Or.inl ⟨by rfl, ?_⟩) (by assumption) ?_
     rotate_left
     ·intro w hSw; (try dsimp only at hSw); go_simp; (try with_reducible rfl)
     go_frame
     refine wpAnyH_take (i := 14) (oi := ⟨some 23, .load 3 (.tmp 22), 3, "tokens.go:82", #[⟨13, .data⟩, ⟨4, .guard⟩], some (4, true)⟩) (v := ?_) rfl (by kernel_rfl) (by kernel_rfl) (by kernel_rfl) (fun _ _ _ h => h) (Or.inl ⟨by rfl, ?_⟩) (by assumption) ?_
     rotate_left
     ·intro w hSw; (try dsimp only at hSw); go_simp; (try with_reducible rfl)
     go_frame
     refine wpAnyH_take (i := 15) (oi := ⟨some 24, .index 9 (.tmp 18) (.tmp 23), 5, "tokens.go:82", #[⟨9, .data⟩, ⟨14, .data⟩, ⟨4, .guard⟩], some (4, true)⟩) (v := ?_) rfl (by kernel_rfl) (by kernel_rfl) (by kernel_rfl) (fun _ _ _ h => h) (Or.inl ⟨by rfl, ?_⟩) (by assumption) ?_
     rotate_left
     ·intro w hSw; (try dsimp only at hSw); go_simp; (try with_reducible rfl)
     go_frame
     refine wpAnyH_ready (rs := [16]) (by kernel_rfl) (by simp) ?_
     refine AllReadyH.cons (o := ⟨some 25, .call { callee := Callee.value (Operand.func 71), args := #[.tmp 24], argTypes := #[5] }, 4, "tokens.go:82", #[⟨15, .data⟩, ⟨4, .chain⟩, ⟨4, .guard⟩], some (4, true)⟩) rfl (fun KK hKK => ?_) AllReadyH.nil
     go_simp
     refine (uh HME _).mono ?_
     rintro en w3 ⟨rfl, b3⟩
     have H3 := hide ((uh H1).kept (gob b3))
     have G3 := hide ((uh G1).trans (grown_but (gob b3) (some b)))
     clear b3
     have z1 := (uh H3).c1
     have z2 := (uh H3).c2
     refine hKK.out _ _ ⟨z1, z2⟩ (fun hHeld => ?_)
     clear hKK KK
     try go_frame
     refine wpAnyH_take (i := 17) (oi := ⟨some 26, .unOp UnOp.not 4 (.tmp 25), 4, "tokens.go:82", #[⟨16, .data⟩, ⟨4, .guard⟩], some (4, true)⟩) (v := ?_) rfl (by kernel_rfl) (by kernel_rfl) (by kernel_rfl) (fun _ _ _ h => h) (Or.inl ⟨by rfl, ?_⟩) (by assumption) ?_
     rotate_left
     ·intro w hSw; (try dsimp only at hSw); go_simp; (try with_reducible rfl)
     go_frame
     refine wpAnyH_take (i := 18) (oi := ⟨some 27, .pick (.tmp 13) (.tmp 26) (Operand.const (Value.bool false)), 4, "tokens.go:82", #[⟨4, .data⟩, ⟨17, .data⟩], none⟩) (v := ?_) rfl (by kernel_rfl) (by kernel_rfl) (by kernel_rfl) (fun _ _ _ h => h) (Or.inl ⟨by rfl, ?_⟩) (by assumption) ?_
     rotate_left
     ·intro w hSw; (try dsimp only at hSw); go_simp; (try with_reducible rfl)
     go_frame
     clear hHeld
     refine wpAnyH_done (by kernel_rfl) ?_ _
     have HTH := hide (thing_all s.size w3 b 71 [v, u] s q 0 0 (3 * (s.size - q) + 3) (uh H3) hq (by omega) (by decide) (ler _) 0 rfl)
     clear y1 y2 z1 z2 c1 c2
     go_wp2_with fail
     refine (uh HTH).mono ?_
     rintro en w5 ⟨rfl, g5, h5⟩
     have G5 := hide ((uh G3).trans g5)
     have HTS := uh HTT
     rw [drop_at hq, wordL_cons, if_neg (by rw [hme]; decide)] at HTS
     have hln : (s.data.toList.drop (q + 1)).length + 1 = s.size - q := by rw [List.length_drop, data_len]; omega
     rw [hln, ← drop_at hq] at HTS
     clear g5 HTH
     cases hth : thg (3 * (s.size - q) + 3) (s.data.toList.drop q) 0 0 with
     | ok l5 =>
       rw [hth] at h5 HTS
       obtain ⟨q5, hq5, hr5⟩ := h5
       have hlt5 : q < q5 := by
        have h1 := hth
        rw [drop_at hq] at h1
        have h2 := thg_lt h1
        rw [← hq5, List.length_drop, List.length_drop, data_len] at h2
        have := hr5.le
        omega
       have HTS2 : Hid (wordL F (s.data.toList.drop q5) = T) := hide (by rw [hq5]; exact HTS)
       have HR5 := hide hr5
       clear HTS hth hq5 hr5
       go_wp2
       go_roundw
       case rel => exact ⟨q5, 0, 0, 0, hide ⟨uh HR5, uh G5, by omega, .inl ⟨rfl, rfl, rfl, F, by omega, uh HTS2⟩⟩⟩
       case measure =>
        rw [(uh HR5).msr0, uh HMS]
        have := (uh HR5).le
        omega
     | err e5 m5 =>
       rw [hth] at h5 HTS
       obtain ⟨q5, d5, he5, hr5⟩ := h5
       have HTS2 : Hid (T = .err e5 m5) := hide HTS.symm
       have HR5 := hide hr5
       have HE5 := hide he5
       clear HTS hth hr5 he5
       go_wp2
       go_roundw
       case rel => exact ⟨q5, d5, e5, _, hide ⟨uh HR5, uh G5, fun e => absurd e (uh HE5), .inr ⟨uh HE5, m5, uh HTS2, rfl⟩⟩⟩
       case measure =>
        rw [(uh HR5).msr1 (uh HE5), uh HMS]
        omega
   ·have hmb : moreB s q 0 = false := by unfold moreB; rw [decide_eq_false hq]; rfl
    rw [hmb] at hmo
    have HMO := hide hmo
    have HTQ : Hid (wordL (s.size - r + 1) (s.data.toList.drop r) = .ok (s.data.toList.drop q)) := hide (by
     rw [uh HTR, ← uh HTT, drop_nil (by omega), wordL_nil])
    clear hmo hmb HMS
    go_wp2_with fail
    refine wp_region_held_drew (S := fun w' => w'.cell? ⟨b, 1, none⟩ = some (.string s) ∧ w'.cell? ⟨b, 2, none⟩ = some (.int .i64 (q : Int))) (by kernel_rfl) ⟨c1, c2⟩ (fun hHeld => ?_)
    refine wpAnyH_take (i := 0) (oi := ⟨some 9, .move (.tmp 0), 91, "tokens.go:82", #[], none⟩) (v := ?_) rfl (by kernel_rfl) (by kernel_rfl) (by kernel_rfl) (fun _ _ _ h => h) (Or.inl ⟨by rfl, ?_⟩) (by assumption) ?_
    rotate_left
    ·intro w hSw; (try dsimp only at hSw); go_simp; (try with_reducible rfl)
    go_frame
    refine wpAnyH_take (i := 1) (oi := ⟨some 10, .nilCheck (.tmp 9), 0, "tokens.go:82", #[⟨0, .data⟩], none⟩) (v := ?_) rfl (by kernel_rfl) (by kernel_rfl) (by kernel_rfl) (fun _ _ _ h => h) (Or.inl ⟨by rfl, ?_⟩) (by assumption) ?_
    rotate_left
    ·intro w hSw; (try dsimp only at hSw); go_simp; (try with_reducible rfl)
    go_frame
    refine wpAnyH_take (i := 2) (oi := ⟨some 11, .fieldAddr 71 (.tmp 10) 0, 0, "tokens.go:82", #[⟨1, .data⟩], none⟩) (v := ?_) rfl (by kernel_rfl) (by kernel_rfl) (by kernel_rfl) (fun _ _ _ h => h) (Or.inl ⟨by rfl, ?_⟩) (by assumption) ?_
    rotate_left
    ·intro w hSw; (try dsimp only at hSw); go_simp; (try with_reducible rfl)
    go_frame
    refine wpAnyH_ready (rs := [3]) (by kernel_rfl) (by simp) ?_
    refine AllReadyH.cons (o := ⟨some 12, .call { callee := Callee.value (Operand.func 28), args := #[.tmp 11], argTypes := #[67] }, 4, "tokens.go:82", #[⟨2, .data⟩], none⟩) rfl (fun KK hKK => ?_) AllReadyH.nil
    go_simp
    refine (uh HMO).mono ?_
    rintro en w1 ⟨rfl, k1, hw1⟩
    have H1 : Hid (Rdr w1 b 71 [v, u] s q 0 0 0) := hide (by rw [hw1]; exact ((uh HR).drewN 1).drewN k1)
    have G1 : Hid (w.grownBy w1 (some b)) := hide (by rw [hw1]; exact (uh HG).trans (grown_but ((gdn wr 1).trans (gdn _ k1)) (some b)))
    clear hw1
    have y1 := (uh H1).c1
    have y2 := (uh H1).c2
    refine hKK.out _ _ ⟨y1, y2⟩ (fun hHeld => ?_)
    clear hKK KK
    try go_frame
    refine wpAnyH_take (i := 4) (oi := ⟨some 13, .move (.tmp 12), 4, "tokens.go:82", #[⟨3, .data⟩, ⟨3, .chain⟩], none⟩) (v := ?_) rfl (by kernel_rfl) (by kernel_rfl) (by kernel_rfl) (fun _ _ _ h => h) (Or.inl ⟨by rfl, ?_⟩) (by assumption) ?_
    rotate_left
    ·intro w hSw; (try dsimp only at hSw); go_simp; (try with_reducible rfl)
    go_frame
    refine wpAnyH_take (i := 5) (oi := ⟨some 14, .move (.tmp 0), 91, "tokens.go:82", #[⟨4, .guard⟩], some (4, true)⟩) (v := undef) rfl (by kernel_rfl) (by kernel_rfl) (by kernel_rfl) (fun _ _ _ h => h) (Or.inr ⟨by rfl, rfl⟩) (by assumption) ?_
    go_frame
    refine wpAnyH_take (i := 6) (oi := ⟨some 15, .nilCheck (.tmp 14), 0, "tokens.go:82", #[⟨5, .data⟩, ⟨4, .guard⟩], some (4, true)⟩) (v := undef) rfl (by kernel_rfl) (by kernel_rfl) (by kernel_rfl) (fun _ _ _ h => h) (Or.inr ⟨by rfl, rfl⟩) (by assumption) ?_
    go_frame
    refine wpAnyH_take (i := 7) (oi := ⟨some 16, .fieldAddr 71 (.tmp 15) 0, 0, "tokens.go:82", #[⟨6, .data⟩, ⟨4, .guard⟩], some (4, true)⟩) (v := undef) rfl (by kernel_rfl) (by kernel_rfl) (by kernel_rfl) (fun _ _ _ h => h) (Or.inr ⟨by rfl, rfl⟩) (by assumption) ?_
    go_frame
    refine wpAnyH_take (i := 8) (oi := ⟨some 17, .fieldAddr 67 (.tmp 16) 1, 0, "tokens.go:82", #[⟨7, .data⟩, ⟨4, .guard⟩], some (4, true)⟩) (v := undef) rfl (by kernel_rfl) (by kernel_rfl) (by kernel_rfl) (fun _ _ _ h => h) (Or.inr ⟨by rfl, rfl⟩) (by assumption) ?_
    go_frame
    refine wpAnyH_take (i := 9) (oi := ⟨some 18, .load 9 (.tmp 17), 9, "tokens.go:82", #[⟨8, .data⟩, ⟨4, .guard⟩], some (4, true)⟩) (v := undef) rfl (by kernel_rfl) (by kernel_rfl) (by kernel_rfl) (fun _ _ _ h => h) (Or.inr ⟨by rfl, rfl⟩) (by assumption) ?_
    go_frame
    refine wpAnyH_take (i := 10) (oi := ⟨some 19, .move (.tmp 0), 91, "tokens.go:82", #[⟨4, .guard⟩], some (4, true)⟩) (v := undef) rfl (by kernel_rfl) (by kernel_rfl) (by kernel_rfl) (fun _ _ _ h => h) (Or.inr ⟨by rfl, rfl⟩) (by assumption) ?_
    go_frame
    refine wpAnyH_take (i := 11) (oi := ⟨some 20, .nilCheck (.tmp 19), 0, "tokens.go:82", #[⟨10, .data⟩, ⟨4, .guard⟩], some (4, true)⟩) (v := undef) rfl (by kernel_rfl) (by kernel_rfl) (by kernel_rfl) (fun _ _ _ h => h) (Or.inr ⟨by rfl, rfl⟩) (by assumption) ?_
    go_frame
    refine wpAnyH_take (i := 12) (oi := ⟨some 21, .fieldAddr 71 (.tmp 20) 0, 0, "tokens.go:82", #[⟨11, .data⟩, ⟨4, .guard⟩], some (4, true)⟩) (v := undef) rfl (by kernel_rfl) (by kernel_rfl) (by kernel_rfl) (fun _ _ _ h => h) (Or.inr ⟨by rfl, rfl⟩) (by assumption) ?_
    go_frame
    refine wpAnyH_take (i := 13) (oi := ⟨some 22, .fieldAddr 67 (.tmp 21) 2, 0, "tokens.go:82", #[⟨12, .data⟩, ⟨4, .guard⟩], some (4, true)⟩) (v := undef) rfl (by kernel_rfl) (by kernel_rfl) (by kernel_rfl) (fun _ _ _ h => h) (Or.inr ⟨by rfl, rfl⟩) (by assumption) ?_
    go_frame
    refine wpAnyH_take (i := 14) (oi := ⟨some 23, .load 3 (.tmp 22), 3, "tokens.go:82", #[⟨13, .data⟩, ⟨4, .guard⟩], some (4, true)⟩) (v := undef) rfl (by kernel_rfl) (by kernel_rfl) (by kernel_rfl) (fun _ _ _ h => h) (Or.inr ⟨by rfl, rfl⟩) (by assumption) ?_
    go_frame
    refine wpAnyH_take (i := 15) (oi := ⟨some 24, .index 9 (.tmp 18) (.tmp 23), 5, "tokens.go:82", #[⟨9, .data⟩, ⟨14, .data⟩, ⟨4, .guard⟩], some (4, true)⟩) (v := undef) rfl (by kernel_rfl) (by kernel_rfl) (by kernel_rfl) (fun _ _ _ h => h) (Or.inr ⟨by rfl, rfl⟩) (by assumption) ?_
    go_frame
    refine wpAnyH_take (i := 16) (oi := ⟨some 25, .call { callee := Callee.value (Operand.func 71), args := #[.tmp 24], argTypes := #[5] }, 4, "tokens.go:82", #[⟨15, .data⟩, ⟨4, .chain⟩, ⟨4, .guard⟩], some (4, true)⟩) (v := undef) rfl (by kernel_rfl) (by kernel_rfl) (by kernel_rfl) (fun _ _ _ h => h) (Or.inr ⟨by rfl, rfl⟩) (by assumption) ?_
    go_frame
    refine wpAnyH_take (i := 17) (oi := ⟨some 26, .unOp UnOp.not 4 (.tmp 25), 4, "tokens.go:82", #[⟨16, .data⟩, ⟨4, .guard⟩], some (4, true)⟩) (v := undef) rfl (by kernel_rfl) (by kernel_rfl) (by kernel_rfl) (fun _ _ _ h => h) (Or.inr ⟨by rfl, rfl⟩) (by assumption) ?_
    go_frame
    refine wpAnyH_take (i := 18) (oi := ⟨some 27, .pick (.tmp 13) (.tmp 26) (Operand.const (Value.bool false)), 4, "tokens.go:82", #[⟨4, .data⟩, ⟨17, .data⟩], none⟩) (v := ?_) rfl (by kernel_rfl) (by kernel_rfl) (by kernel_rfl) (fun _ _ _ h => h) (Or.inl ⟨by rfl, ?_⟩) (by assumption) ?_
    rotate_left
    ·intro w hSw; (try dsimp only at hSw); go_simp; (try with_reducible rfl)
    go_frame
    clear hHeld
    refine wpAnyH_done (by kernel_rfl) ?_ _
    have H3 := H1
    have G3 := G1
    obtain ⟨w3, hw3⟩ : ∃ x, x = w1 := ⟨_, rfl⟩
    rw [← hw3] at H3 G3 y1 y2
    rw [← hw3]
    have z1 := y1
    have z2 := y2
    clear H1 G1 hw3
    have hq3 := (uh H3).le
    clear y1 y2 z1 z2 c1 c2
    have y1 := (uh H3).c1
    have y2 := (uh H3).c2
    have y3 := (uh H3).c3
    have hrq' : (r : Int) ≤ (q : Int) := by omega
    go_wp2_with fail
    go_quiet (fail)
    obtain ⟨w4, hw4⟩ : ∃ x, x = w3.drewN nq := ⟨_, rfl⟩
    rw [← hw4]
    have h4 : LexAt w4 b v u s q ps ks { st with rest := s.data.toList.drop q } := by
     refine LexX.ok ((uh HX).move (st1 := { st with rest := s.data.toList.drop q }) (d1 := 0) (r1 := q) (by rw [hw4]; exact (uh G3).trans (grown_but (gdn w3 nq) _)) ?_ rfl rfl (fun _ => rfl) (uh HX).zero (fun _ => rfl)) hf
     show Rdr w4 b 71 [v, u] s q 0 st.flt st.blm
     rw [hf, (uh HX).zero hf, hw4]
     exact (uh H3).drewN nq
    have g4 : GrownS w w4 (fun y => b ≤ y) := by rw [hw4]; exact grownS_own ((uh G3).trans (grown_but (gdn w3 nq) _))
    have H4 := hide h4
    have G4 := hide g4
    clear hw4 h4 g4 y1 y2 y3 H3 G3
    have hex : s.extract r q = BA ((s.data.toList.drop r).take (q - r)) := by
     have := extract_take s r (q - r)
     rwa [show r + (q - r) = q by omega] at this
    obtain ⟨word, hword⟩ : ∃ x, x = (s.data.toList.drop r).take (q - r) := ⟨_, rfl⟩
    rw [← hword] at hex
    rw [hex]
    have hwl : word.length ≤ 100000 := by rw [hword, List.length_take, List.length_drop, data_len]; omega
    have HWT : Hid (wordTok s.size st = if digsB word && ((s.data.toList.drop q).head? == some 60 || (s.data.toList.drop q).head? == some 62) then ({ st with rest := s.data.toList.drop q } : LS).add 4 word (r : Int) else (awaitL { st with rest := s.data.toList.drop q } word).add 1 word (r : Int)) := hide (by
     unfold wordTok
     rw [← uh HRS, List.length_drop, data_len, uh HTQ]
     simp only [List.length_drop, data_len]
     rw [show s.size - (s.size - r) = r by omega, show s.size - r - (s.size - q) = q - r by omega, ← hword])
    clear hword hex
    have HDG := hide (digits_any (BA word) w4 (by rw [BA_size]; exact hwl))
    rw [BA_list] at HDG
    go_wp2_with fail
    refine (uh HDG).mono ?_
    rintro en w5 ⟨rfl, hw5⟩
    rw [show w5 = w4 from hw5]
    clear hw5 HDG
    have hl4 : ({ st with rest := s.data.toList.drop q } : LS).toks.length ≤ 100000 := hl
    have hsl : (awaitL { st with rest := s.data.toList.drop q } word).toks.length ≤ 100000 := by rw [(awaitL_flt _ _).2.2.2.1]; exact hl
    have hsf : (awaitL { st with rest := s.data.toList.drop q } word).flt = 0 := by rw [(awaitL_flt _ _).1]; exact hf
    have hm4 : w4.cell? ⟨1, 0, none⟩ = some (.int .i64 m) := by
     rw [World.cell?_of_block ((uh G4).block 1 (by omega) (by omega))]
     exact uh HM
    have HSL := hide hsl
    have HSF := hide hsf
    clear hsl hsf
    cases hD : digsB word with
    | false =>
      rw [hD] at HWT
      have HAW := hide (await_state w4 b v u s q ps ks { st with rest := s.data.toList.drop q } word m (uh H4) hw hl4 hwl hm4 hb1)
      go_wp2_with fail
      refine (uh HAW).mono ?_
      rintro en w6 ⟨rfl, u6, ks6, h6, g6⟩
      have HAD := hide (add_state w6 b v u6 s q ps ks6 _ 1 (r : Int) word h6 (uh HSF) (uh HSL))
      have G6 := hide g6
      clear h6 g6 HAW
      go_wp2_with fail
      refine (uh HAD).mono ?_
      rintro en w7 ⟨rfl, v7, ps7, h7, g7⟩
      have H7 := hide h7
      have G7 := hide g7
      clear h7 g7 HAD
      go_wp2
      refine bodyPost_end (res0 rfl _ _) rfl ?_
      refine ⟨rfl, v7, u6, q, 0, ps7, ks6, ?_, (uh G4).trans ((uh G6).trans (uh G7))⟩
      rw [uh HWT]
      exact (uh H7).x
    | true =>
      rw [hD] at HWT
      have hr4 := (uh H4).rdr
      have HR4 := hide hr4
      clear hr4
      have HSE := hide (sees_any ⟨#[60]⟩ (uh HR4))
      have hp60 : Lib.hasPrefix (s.data.toList.drop q) [60] = ((s.data.toList.drop q).head? == some 60) := hasP_head _ _
      have hp62 : Lib.hasPrefix (s.data.toList.drop q) [62] = ((s.data.toList.drop q).head? == some 62) := hasP_head _ _
      rw [show (⟨#[60]⟩ : ByteArray).data.toList = [60] from rfl, hp60] at HSE
      cases hA : ((s.data.toList.drop q).head? == some 60) with
      | true =>
        rw [hA] at HSE HWT
        clear hp60 hp62
        go_wp2_with fail
        refine (uh HSE).mono ?_
        rintro en w6 ⟨rfl, k6, hw6⟩
        have h6 : LexAt w6 b v u s q ps ks { st with rest := s.data.toList.drop q } := by rw [hw6]; exact (uh H4).below (bdr _ _) (ler _)
        have G6 : Hid (GrownS w4 w6 (fun y => b ≤ y)) := hide (by rw [hw6]; exact gsb (bdr _ _))
        have HAD := hide (add_state w6 b v u s q ps ks _ 4 (r : Int) word h6 hf hl4)
        clear hw6 h6 HSE
        go_wp2_with fail
        refine (uh HAD).mono ?_
        rintro en w7 ⟨rfl, v7, ps7, h7, g7⟩
        have H7 := hide h7
        have G7 := hide g7
        clear h7 g7 HAD
        go_wp2
        refine bodyPost_ret (res0 rfl _ _) rfl ?_
        refine ⟨rfl, v7, u, q, 0, ps7, ks, ?_, (uh G4).trans ((uh G6).trans (uh G7))⟩
        rw [uh HWT]
        exact (uh H7).x
      | false =>
        rw [hA] at HSE HWT
        go_wp2_with fail
        refine (uh HSE).mono ?_
        rintro en w6 ⟨rfl, k6, hw6⟩
        have h6 : LexAt w6 b v u s q ps ks { st with rest := s.data.toList.drop q } := by rw [hw6]; exact (uh H4).below (bdr _ _) (ler _)
        have G6 : Hid (GrownS w4 w6 (fun y => b ≤ y)) := hide (by rw [hw6]; exact gsb (bdr _ _))
        have HSG := hide (sees_any ⟨#[62]⟩ h6.rdr)
        rw [show (⟨#[62]⟩ : ByteArray).data.toList = [62] from rfl, hp62] at HSG
        have H6 := hide h6
        clear hw6 h6 HSE hp60 hp62
        cases hB : ((s.data.toList.drop q).head? == some 62) with
        | true =>
          rw [hB] at HSG HWT
          go_wp2_with fail
          refine (uh HSG).mono ?_
          rintro en w8 ⟨rfl, k8, hw8⟩
          have h8 : LexAt w8 b v u s q ps ks { st with rest := s.data.toList.drop q } := by rw [hw8]; exact (uh H6).below (bdr _ _) (ler _)
          have G8 : Hid (GrownS w6 w8 (fun y => b ≤ y)) := hide (by rw [hw8]; exact gsb (bdr _ _))
          have HAD := hide (add_state w8 b v u s q ps ks _ 4 (r : Int) word h8 hf hl4)
          clear hw8 h8 HSG
          go_wp2_with fail
          refine (uh HAD).mono ?_
          rintro en w7 ⟨rfl, v7, ps7, h7, g7⟩
          have H7 := hide h7
          have G7 := hide g7
          clear h7 g7 HAD
          go_wp2
          refine bodyPost_ret (res0 rfl _ _) rfl ?_
          refine ⟨rfl, v7, u, q, 0, ps7, ks, ?_, (uh G4).trans ((uh G6).trans ((uh G8).trans (uh G7)))⟩
          rw [uh HWT]
          exact (uh H7).x
        | false =>
          rw [hB] at HSG HWT
          go_wp2_with fail
          refine (uh HSG).mono ?_
          rintro en w8 ⟨rfl, k8, hw8⟩
          have h8 : LexAt w8 b v u s q ps ks { st with rest := s.data.toList.drop q } := by rw [hw8]; exact (uh H6).below (bdr _ _) (ler _)
          have G8 : Hid (GrownS w6 w8 (fun y => b ≤ y)) := hide (by rw [hw8]; exact gsb (bdr _ _))
          have hm8 : w8.cell? ⟨1, 0, none⟩ = some (.int .i64 m) := by
           rw [World.cell?_of_block ((uh G8).block 1 (by have := (uh G6).size; have := (uh G4).size; omega) (by omega)), World.cell?_of_block ((uh G6).block 1 (by have := (uh G4).size; omega) (by omega))]
           exact hm4
          have HAW := hide (await_state w8 b v u s q ps ks { st with rest := s.data.toList.drop q } word m h8 hw hl4 hwl hm8 hb1)
          clear hw8 h8 HSG hm8
          go_wp2_with fail
          refine (uh HAW).mono ?_
          rintro en w9 ⟨rfl, u6, ks6, h9, g9⟩
          have HAD := hide (add_state w9 b v u6 s q ps ks6 _ 1 (r : Int) word h9 (uh HSF) (uh HSL))
          have G9 := hide g9
          clear h9 g9 HAW
          go_wp2_with fail
          refine (uh HAD).mono ?_
          rintro en w7 ⟨rfl, v7, ps7, h7, g7⟩
          have H7 := hide h7
          have G7 := hide g7
          clear h7 g7 HAD
          go_wp2
          refine bodyPost_end (res0 rfl _ _) rfl ?_
          refine ⟨rfl, v7, u6, q, 0, ps7, ks6, ?_, (uh G4).trans ((uh G6).trans ((uh G8).trans ((uh G9).trans (uh G7))))⟩
          rw [uh HWT]
          exact (uh H7).x
  ·have hmo := more_any (hR.drewN 1)
   have hmb : moreB s q f = false := by unfold moreB; rw [show (f == 0) = false by simpa using hfe]; rfl
   rw [hmb] at hmo
   have HMO := hide hmo
   have c1 := hR.c1
   have c2 := hR.c2
   have HR := hide hR
   have HBL := hide hBL
   have HTE : Hid (wordL (s.size - r + 1) (s.data.toList.drop r) = .err f mm) := hide (by rw [uh HTR, hTE])
   have hfe' : (f == 0) = false := by simpa using hfe
   clear hmo hmb hR hBL hTE hrq
   go_wp2_with fail
   refine wp_region_held_drew (S := fun w' => w'.cell? ⟨b, 1, none⟩ = some (.string s) ∧ w'.cell? ⟨b, 2, none⟩ = some (.int .i64 (q : Int))) (by kernel_rfl) ⟨c1, c2⟩ (fun hHeld => ?_)
   refine wpAnyH_take (i := 0) (oi := ⟨some 9, .move (.tmp 0), 91, "tokens.go:82", #[], none⟩) (v := ?_) rfl (by kernel_rfl) (by kernel_rfl) (by kernel_rfl) (fun _ _ _ h => h) (Or.inl ⟨by rfl, ?_⟩) (by assumption) ?_
   rotate_left
   ·intro w hSw; (try dsimp only at hSw); go_simp; (try with_reducible rfl)
   go_frame
   refine wpAnyH_take (i := 1) (oi := ⟨some 10, .nilCheck (.tmp 9), 0, "tokens.go:82", #[⟨0, .data⟩], none⟩) (v := ?_) rfl (by kernel_rfl) (by kernel_rfl) (by kernel_rfl) (fun _ _ _ h => h) (Or.inl ⟨by rfl, ?_⟩) (by assumption) ?_
   rotate_left
   ·intro w hSw; (try dsimp only at hSw); go_simp; (try with_reducible rfl)
   go_frame
   refine wpAnyH_take (i := 2) (oi := ⟨some 11, .fieldAddr 71 (.tmp 10) 0, 0, "tokens.go:82", #[⟨1, .data⟩], none⟩) (v := ?_) rfl (by kernel_rfl) (by kernel_rfl) (by kernel_rfl) (fun _ _ _ h => h) (Or.inl ⟨by rfl, ?_⟩) (by assumption) ?_
   rotate_left
   ·intro w hSw; (try dsimp only at hSw); go_simp; (try with_reducible rfl)
   go_frame
   refine wpAnyH_ready (rs := [3]) (by kernel_rfl) (by simp) ?_
   refine AllReadyH.cons (o := ⟨some 12, .call { callee := Callee.value (Operand.func 28), args := #[.tmp 11], argTypes := #[67] }, 4, "tokens.go:82", #[⟨2, .data⟩], none⟩) rfl (fun KK hKK => ?_) AllReadyH.nil
   go_simp
   refine (uh HMO).mono ?_
   rintro en w1 ⟨rfl, k1, hw1⟩
   have H1 : Hid (Rdr w1 b 71 [v, u] s q d f bl) := hide (by rw [hw1]; exact ((uh HR).drewN 1).drewN k1)
   have G1 : Hid (w.grownBy w1 (some b)) := hide (by rw [hw1]; exact (uh HG).trans (grown_but ((gdn wr 1).trans (gdn _ k1)) (some b)))
   clear hw1
   have y1 := (uh H1).c1
   have y2 := (uh H1).c2
   refine hKK.out _ _ ⟨y1, y2⟩ (fun hHeld => ?_)
   clear hKK KK
   try go_frame
   refine wpAnyH_take (i := 4) (oi := ⟨some 13, .move (.tmp 12), 4, "tokens.go:82", #[⟨3, .data⟩, ⟨3, .chain⟩], none⟩) (v := ?_) rfl (by kernel_rfl) (by kernel_rfl) (by kernel_rfl) (fun _ _ _ h => h) (Or.inl ⟨by rfl, ?_⟩) (by assumption) ?_
   rotate_left
   ·intro w hSw; (try dsimp only at hSw); go_simp; (try with_reducible rfl)
   go_frame
   refine wpAnyH_take (i := 5) (oi := ⟨some 14, .move (.tmp 0), 91, "tokens.go:82", #[⟨4, .guard⟩], some (4, true)⟩) (v := undef) rfl (by kernel_rfl) (by kernel_rfl) (by kernel_rfl) (fun _ _ _ h => h) (Or.inr ⟨by rfl, rfl⟩) (by assumption) ?_
   go_frame
   refine wpAnyH_take (i := 6) (oi := ⟨some 15, .nilCheck (.tmp 14), 0, "tokens.go:82", #[⟨5, .data⟩, ⟨4, .guard⟩], some (4, true)⟩) (v := undef) rfl (by kernel_rfl) (by kernel_rfl) (by kernel_rfl) (fun _ _ _ h => h) (Or.inr ⟨by rfl, rfl⟩) (by assumption) ?_
   go_frame
   refine wpAnyH_take (i := 7) (oi := ⟨some 16, .fieldAddr 71 (.tmp 15) 0, 0, "tokens.go:82", #[⟨6, .data⟩, ⟨4, .guard⟩], some (4, true)⟩) (v := undef) rfl (by kernel_rfl) (by kernel_rfl) (by kernel_rfl) (fun _ _ _ h => h) (Or.inr ⟨by rfl, rfl⟩) (by assumption) ?_
   go_frame
   refine wpAnyH_take (i := 8) (oi := ⟨some 17, .fieldAddr 67 (.tmp 16) 1, 0, "tokens.go:82", #[⟨7, .data⟩, ⟨4, .guard⟩], some (4, true)⟩) (v := undef) rfl (by kernel_rfl) (by kernel_rfl) (by kernel_rfl) (fun _ _ _ h => h) (Or.inr ⟨by rfl, rfl⟩) (by assumption) ?_
   go_frame
   refine wpAnyH_take (i := 9) (oi := ⟨some 18, .load 9 (.tmp 17), 9, "tokens.go:82", #[⟨8, .data⟩, ⟨4, .guard⟩], some (4, true)⟩) (v := undef) rfl (by kernel_rfl) (by kernel_rfl) (by kernel_rfl) (fun _ _ _ h => h) (Or.inr ⟨by rfl, rfl⟩) (by assumption) ?_
   go_frame
   refine wpAnyH_take (i := 10) (oi := ⟨some 19, .move (.tmp 0), 91, "tokens.go:82", #[⟨4, .guard⟩], some (4, true)⟩) (v := undef) rfl (by kernel_rfl) (by kernel_rfl) (by kernel_rfl) (fun _ _ _ h => h) (Or.inr ⟨by rfl, rfl⟩) (by assumption) ?_
   go_frame
   refine wpAnyH_take (i := 11) (oi := ⟨some 20, .nilCheck (.tmp 19), 0, "tokens.go:82", #[⟨10, .data⟩, ⟨4, .guard⟩], some (4, true)⟩) (v := undef) rfl (by kernel_rfl) (by kernel_rfl) (by kernel_rfl) (fun _ _ _ h => h) (Or.inr ⟨by rfl, rfl⟩) (by assumption) ?_
   go_frame
   refine wpAnyH_take (i := 12) (oi := ⟨some 21, .fieldAddr 71 (.tmp 20) 0, 0, "tokens.go:82", #[⟨11, .data⟩, ⟨4, .guard⟩], some (4, true)⟩) (v := undef) rfl (by kernel_rfl) (by kernel_rfl) (by kernel_rfl) (fun _ _ _ h => h) (Or.inr ⟨by rfl, rfl⟩) (by assumption) ?_
   go_frame
   refine wpAnyH_take (i := 13) (oi := ⟨some 22, .fieldAddr 67 (.tmp 21) 2, 0, "tokens.go:82", #[⟨12, .data⟩, ⟨4, .guard⟩], some (4, true)⟩) (v := undef) rfl (by kernel_rfl) (by kernel_rfl) (by kernel_rfl) (fun _ _ _ h => h) (Or.inr ⟨by rfl, rfl⟩) (by assumption) ?_
   go_frame
   refine wpAnyH_take (i := 14) (oi := ⟨some 23, .load 3 (.tmp 22), 3, "tokens.go:82", #[⟨13, .data⟩, ⟨4, .guard⟩], some (4, true)⟩) (v := undef) rfl (by kernel_rfl) (by kernel_rfl) (by kernel_rfl) (fun _ _ _ h => h) (Or.inr ⟨by rfl, rfl⟩) (by assumption) ?_
   go_frame
   refine wpAnyH_take (i := 15) (oi := ⟨some 24, .index 9 (.tmp 18) (.tmp 23), 5, "tokens.go:82", #[⟨9, .data⟩, ⟨14, .data⟩, ⟨4, .guard⟩], some (4, true)⟩) (v := undef) rfl (by kernel_rfl) (by kernel_rfl) (by kernel_rfl) (fun _ _ _ h => h) (Or.inr ⟨by rfl, rfl⟩) (by assumption) ?_
   go_frame
   refine wpAnyH_take (i := 16) (oi := ⟨some 25, .call { callee := Callee.value (Operand.func 71), args := #[.tmp 24], argTypes := #[5] }, 4, "tokens.go:82", #[⟨15, .data⟩, ⟨4, .chain⟩, ⟨4, .guard⟩], some (4, true)⟩) (v := undef) rfl (by kernel_rfl) (by kernel_rfl) (by kernel_rfl) (fun _ _ _ h => h) (Or.inr ⟨by rfl, rfl⟩) (by assumption) ?_
   go_frame
   refine wpAnyH_take (i := 17) (oi := ⟨some 26, .unOp UnOp.not 4 (.tmp 25), 4, "tokens.go:82", #[⟨16, .data⟩, ⟨4, .guard⟩], some (4, true)⟩) (v := undef) rfl (by kernel_rfl) (by kernel_rfl) (by kernel_rfl) (fun _ _ _ h => h) (Or.inr ⟨by rfl, rfl⟩) (by assumption) ?_
   go_frame
   refine wpAnyH_take (i := 18) (oi := ⟨some 27, .pick (.tmp 13) (.tmp 26) (Operand.const (Value.bool false)), 4, "tokens.go:82", #[⟨4, .data⟩, ⟨17, .data⟩], none⟩) (v := ?_) rfl (by kernel_rfl) (by kernel_rfl) (by kernel_rfl) (fun _ _ _ h => h) (Or.inl ⟨by rfl, ?_⟩) (by assumption) ?_
   rotate_left
   ·intro w hSw; (try dsimp only at hSw); go_simp; (try with_reducible rfl)
   go_frame
   clear hHeld
   refine wpAnyH_done (by kernel_rfl) ?_ _
   clear c1 c2 y1 y2
   have y3 := (uh H1).c3
   go_wp2
   refine bodyPost_ret (res0 rfl _ _) rfl ?_
   refine ⟨rfl, v, u, q, d, ps, ks, ?_, grownS_own (uh G1)⟩
   have hwt : wordTok s.size st = { st with flt := f, blm := bl } := by
    unfold wordTok
    rw [← uh HRS, List.length_drop, data_len, uh HTE, uh HBL]
   rw [hwt]
   exact (uh HX).move (st1 := { st with flt := f, blm := bl }) (uh G1) (uh H1) rfl rfl (fun e => absurd (show f = 0 from e) hfe) (fun e => absurd (show f = 0 from e) hfe) (fun e => absurd (show f = 0 from e) hfe)
theorem token_state (w : World) (b : Nat) (v u : Value) (s : ByteArray) (r : Nat) (ps ks : List Nat) (st : LS) (m : Int) (h : LexAt w b v u s r ps ks st) (hf : st.flt = 0) (hne : st.rest ≠ []) (hw : st.wait.length ≤ 100000) (hl : st.toks.length ≤ 100000) (hm : w.cell? ⟨1, 0, none⟩ = some (.int .i64 m)) (ho : OpsAt w) (hb1 : 1 < b) :
 Calls Tryz.prog 29 #[.pointer (some ⟨b, 0, none⟩)] w fun e w' => e = .returned (.tuple #[]) ∧ ∃ v' u' r' d' ps' ks', LexX w' b v' u' s r' d' ps' ks' (tokenL s.size st) ∧ GrownS w w' (fun y => b ≤ y) := by
 have hr := h.rdr
 have hdr := h.rest hf
 obtain ⟨c, R, hcR⟩ : ∃ c R, st.rest = c :: R := by
  cases hx : st.rest with
  | nil => exact absurd hx hne
  | cons c R => exact ⟨c, R, rfl⟩
 rw [hcR] at hdr
 have hrs : r < s.size := by
  rcases Nat.lt_or_ge r s.size with h' | h'
  ·exact h'
  ·rw [drop_nil h'] at hdr; cases hdr
 have hRl : s.size - (R.length + 1) = r := by
  have := congrArg List.length hdr
  rw [List.length_drop, data_len, List.length_cons] at this
  omega
 have HTL : Hid (tokenL s.size st = if c = 10 then newlineL { st with rest := R } (r : Int) else if opL (c :: R) = [] then wordTok s.size st else ({ st with rest := (c :: R).drop (opL (c :: R)).length } : LS).add 2 (opL (c :: R)) (r : Int)) := hide (by
  unfold tokenL
  rw [hcR]
  simp only [hRl])
 have hlen := hr.len
 have hrle := hr.le
 have c1 := hr.c1
 have c2 := hr.c2
 have HOP : Hid (∀ W, OpsAt W → Calls Tryz.prog 50 #[.string (s.extract r s.size)] W fun e w' => e = .returned (.string (BA (opL (c :: R)))) ∧ w' = W) := hide (fun W hW => by
  rw [extract_end, hdr]
  exact operator_any (c :: R) W hW)
 obtain ⟨O, hO⟩ : ∃ O, O = opL (c :: R) := ⟨_, rfl⟩
 have HOL : Hid (O.length ≤ 3 ∧ (O ≠ [] → r + O.length ≤ s.size ∧ s.data.toList.drop (r + O.length) = (c :: R).drop O.length)) := hide (by
  refine ⟨by rw [hO]; exact opL_len _, fun hn => ⟨?_, by rw [← List.drop_drop, hdr]⟩⟩
  have h1 := opL_pre (c :: R)
  rw [← hO] at h1
  have h2 := h1.length_le
  rw [← hdr, List.length_drop, data_len] at h2
  omega)
 rw [← hO] at HOP HTL
 have HH := hide h
 have HD := hide hdr
 have HC := hide hcR
 have HM := hide hm
 have hodw : ∀ n, OpsAt (w.drewN n) := fun n => ho.grown (gdn w n)
 have HO2 := hide hodw
 have hbl := hr.blk.lt
 clear hr hdr hRl hO h hm hcR hne ho hodw
 go_enter Tryz.func29, Tryz.ntmps29
 go_wp2_with fail
 go_quiet ((go_at_call 50; exact Calls.quiet_of_same (uh HOP _ (uh HO2 _))))
 obtain ⟨w1, hw1⟩ : ∃ x, x = w.drewN nq := ⟨_, rfl⟩
 rw [← hw1]
 have h1 : LexAt w1 b v u s r ps ks st := by rw [hw1]; exact (uh HH).below (bdr _ _) (ler _)
 have G1 : Hid (GrownS w w1 (fun y => b ≤ y)) := hide (by rw [hw1]; exact gsb (bdr _ _))
 have HS := hide (sees_any ⟨#[10]⟩ h1.rdr)
 have H1 := hide h1
 rw [show (⟨#[10]⟩ : ByteArray).data.toList = [10] from rfl, uh HD, hasP_one] at HS
 clear hw1 h1 c1 c2 HOP HO2 HH
 go_wp2_with fail
 refine (uh HS).mono ?_
 rintro en w2 ⟨rfl, k2, hw2⟩
 have h2 : LexAt w2 b v u s r ps ks st := by rw [hw2]; exact (uh H1).below (bdr _ _) (ler _)
 have G2 : Hid (GrownS w w2 (fun y => b ≤ y)) := hide ((uh G1).trans (by rw [hw2]; exact gsb (bdr _ _)))
 have hm2 : w2.cell? ⟨1, 0, none⟩ = some (.int .i64 m) := by
  rw [World.cell?_of_block ((uh G2).block 1 (by omega) (by omega))]
  exact uh HM
 have H2 := hide h2
 have HM2 := hide hm2
 clear hw2 h2 HS H1 G1 hm2
 by_cases hc : c = 10
 ·subst hc
  have HN := hide (newline_state w2 b v u s r ps ks st R m (uh H2) hf (uh HC) hl hw (uh HM2) hb1)
  rw [if_pos rfl] at HTL
  go_wp2_with fail
  refine (uh HN).mono ?_
  rintro en w3 ⟨rfl, v3, u3, r3, ps3, ks3, h3, g3⟩
  have H3 := hide h3
  have G3 := hide g3
  clear h3 g3 HN
  go_wp2
  refine bodyPost_end (res0 rfl _ _) rfl ?_
  refine ⟨rfl, v3, u3, r3, 0, ps3, ks3, ?_, (uh G2).trans (uh G3)⟩
  rw [uh HTL]
  exact (uh H3).x
 ·have hcb : (c == 10) = false := beq_false_of_ne hc
  rw [if_neg hc] at HTL
  rw [hcb]
  clear hcb
  by_cases hO0 : O = []
  ·subst hO0
   rw [if_pos rfl] at HTL
   have HN := hide (word_state w2 b v u s r ps ks st m (uh H2) hf hw hl (uh HM2) hb1)
   have e0 : (BA []).toList.isEmpty = true := by rw [ByteArray.toList_eq]; rfl
   go_wp2_with fail
   refine (uh HN).mono ?_
   rintro en w3 ⟨rfl, v3, u3, r3, d3, ps3, ks3, h3, g3⟩
   have H3 := hide h3
   have G3 := hide g3
   clear h3 g3 HN
   go_wp2
   refine bodyPost_end (res0 rfl _ _) rfl ?_
   refine ⟨rfl, v3, u3, r3, d3, ps3, ks3, ?_, (uh G2).trans (uh G3)⟩
   rw [uh HTL]
   exact uh H3
  ·rw [if_neg hO0] at HTL
   have hle3 := (uh HOL).1
   obtain ⟨hq, hdq⟩ := (uh HOL).2 hO0
   have e0 : (BA O).toList.isEmpty = false := by
    rw [ByteArray.toList_eq, BA_list]
    cases O with
    | nil => exact absurd rfl hO0
    | cons x O => rfl
   obtain ⟨q, hqe⟩ : ∃ q, q = r + O.length := ⟨_, rfl⟩
   rw [← hqe] at hq hdq
   have hwq : IntKind.i64.wrap ((r : Int) + (O.length : Int)) = (q : Int) := by rw [IntKind.wrap_i64]; omega
   have c2 := (uh H2).rdr.c2
   have HN := hide (add_state w2 b v u s r ps ks st 2 (r : Int) O (uh H2) hf hl)
   have HDQ := hide hdq
   clear hqe hdq hO0
   go_wp2_with fail
   refine (uh HN).mono ?_
   rintro en w3 ⟨rfl, v3, ps3, h3, g3⟩
   have d2 := h3.rdr.c2
   have z2 := h3.rdr.blk.frozen 2
   have H3 := hide h3
   have G3 := hide g3
   clear h3 g3 HN c2
   go_wp2
   refine bodyPost_end (res0 rfl _ _) rfl ?_
   have gs := gsc w3 ⟨b, 2, none⟩ (.int .i64 (q : Int))
   refine ⟨rfl, v3, u, q, 0, ps3, ks, ?_, (uh G2).trans ((uh G3).trans (grownS_own gs))⟩
   rw [uh HTL]
   refine (uh H3).x.move (st1 := ({ st with rest := (c :: R).drop O.length } : LS).add 2 O (r : Int)) gs ?_ rfl rfl (fun _ => uh HDQ) (uh H2).zero (fun _ => rfl)
   exact (uh H3).rdr.to q hq
end Go.Proofs.YtojjfdobilkknaaGreatDoor

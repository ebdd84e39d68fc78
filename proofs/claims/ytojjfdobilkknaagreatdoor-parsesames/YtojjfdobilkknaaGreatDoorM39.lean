/- The parser, without memory: no row of what is read is longer than its tokens are.; The document's Same. -/
import Derived.Test.YtojjfdobilkknaaGreatDoorM30
import Derived.Test.YtojjfdobilkknaaGreatDoorM38
import Derived.Test.YtojjfdobilkknaaGreatDoorM36
set_option maxRecDepth 20000
set_option maxHeartbeats 4000000
namespace Go.Proofs.YtojjfdobilkknaaGreatDoor
open Go.RowKit
theorem ln0 (k : Int) (no : Bool) (cmds : List Cm) (hn : cmds.length ≤ 9000) (hc : ∀ c ∈ cmds, LnC c) : LnC (.mk k no [] [] [] cmds [] false []) := .mk _ _ _ _ _ _ _ _ _ ⟨by decide, by decide, by decide, hn, by decide⟩ hc (fun _ h => by cases h) (fun _ h => by cases h)
theorem ln_set {c : Cm} (h : LnC c) {q : List (Int × Int × Wd)} (hq : q.length ≤ 9000) : LnC (c.setRedirs q) := by
 cases h with
 | mk k no lets words redirs cmds name ev items h hc hi hb => exact .mk _ _ _ _ _ _ _ _ _ ⟨h.1, h.2.1, hq, h.2.2.2⟩ hc hi hb
theorem ln_redirs {c : Cm} (h : LnC c) : c.redirs.length ≤ 9000 := by
 cases h with
 | mk k no lets words redirs cmds name ev items h hc hi hb => exact h.2.2.1
namespace Pz
theorem redirsN_ln : ∀ (n : Nat) (s : Pz), (redirsN n s).1.length ≤ n
 | 0, s => ler _
 | n + 1, s => by
   unfold redirsN
   split
   ·exact Nat.succ_le_succ (redirsN_ln n _)
   ·exact Nat.zero_le _
theorem wordsN_ln : ∀ (n : Nat) (s : Pz), (wordsN n s).1.length ≤ n
 | 0, s => ler _
 | n + 1, s => by
   unfold wordsN
   split
   ·exact Nat.succ_le_succ (wordsN_ln n _)
   ·exact Nat.zero_le _
theorem altsN_ln : ∀ (n : Nat) (s : Pz), (altsN n s).1.length ≤ n
 | 0, s => ler _
 | n + 1, s => by
   unfold altsN
   split
   ·exact Nat.succ_le_succ (altsN_ln n _)
   ·exact Nat.zero_le _
def Smp.m (c : Smp) : Nat := c.lets.length + c.words.length + c.redirs.length
theorem simpleN_ln : ∀ (n : Nat) (c : Smp) (s : Pz), (simpleN n c s).1.m ≤ c.m + n
 | 0, c, s => ler _
 | n + 1, c, s => by
   unfold simpleN
   split
   ·exact lee (simpleN_ln n { c with redirs := c.redirs ++ [s.redir.1] } s.redir.2) (by unfold Smp.m; simp; omega)
   ·split
    ·exact lee (simpleN_ln n { c with lets := c.lets ++ [s.lets.1] } s.lets.2) (by unfold Smp.m; simp; omega)
    ·split
     ·exact lee (simpleN_ln n { c with words := c.words ++ [s.word.1] } s.word.2) (by unfold Smp.m; simp; omega)
     ·exact Nat.le_add_right _ _
theorem simple_ln {s : Pz} (hN : s.toks.length ≤ 4990) : LnC s.simple.1 := by
 unfold simple
 split
 ·have h := simpleN_ln s.toks.length ⟨[], [], []⟩ s
  have h2 : (⟨[], [], []⟩ : Smp).m = 0 := rfl
  unfold Smp.m at h h2
  exact .mk _ _ _ _ _ _ _ _ _ ⟨by omega, by omega, by omega, by decide, by decide⟩ (fun _ h => by cases h) (fun _ h => by cases h) (fun _ h => by cases h)
 ·exact ln0 _ _ _ (by decide) (fun _ h => by cases h)
end Pz
open Pz
theorem cm0_ln : LnC cm0 := ln0 _ _ _ (by decide) (fun _ h => by cases h)
theorem seqC_ln {l : List Cm} (hn : l.length ≤ 9000) (h : ∀ c ∈ l, LnC c) : LnC (seqC l) := by
 unfold seqC
 split
 ·exact h _ (by simp)
 ·exact ln0 _ _ _ hn h
def Lr (N : Nat) (r : Pz → Cm × Pz) : Prop := ∀ s, s.toks.length ≤ N → LnC (r s).1
theorem one_ln {k : Int} {no : Bool} {a : Cm} (h : LnC a) : LnC (.mk k no [] [] [] [a] [] false []) := ln0 _ _ _ (by simp) (fun c hc => by rw [List.mem_singleton.1 hc]; exact h)
theorem two_ln {k : Int} {no : Bool} {a b : Cm} (h : LnC a) (h2 : LnC b) : LnC (.mk k no [] [] [] [a, b] [] false []) := ln0 _ _ _ (by simp) (fun c hc => by
 simp only [List.mem_cons, List.not_mem_nil, or_false] at hc
 rcases hc with rfl | rfl
 ·exact h
 ·exact h2)
theorem three_ln {k : Int} {no : Bool} {a b d : Cm} (h : LnC a) (h2 : LnC b) (h3 : LnC d) : LnC (.mk k no [] [] [] [a, b, d] [] false []) := ln0 _ _ _ (by simp) (fun c hc => by
 simp only [List.mem_cons, List.not_mem_nil, or_false] at hc
 rcases hc with rfl | rfl | rfl
 ·exact h
 ·exact h2
 ·exact h3)
theorem lr_at {lst : Pz → Cm × Pz} {N : Nat} (h : Lr N lst) {s t : Pz} (k : Kp s t) (hN : s.toks.length ≤ N) : LnC (lst t).1 := h t (lee k.1 hN)
theorem ln_enclosed {lst : Pz → Cm × Pz} {N : Nat} (h : Lr N lst) (k : Int) (c : ByteArray) : Lr N (Pz.enclosed lst k c) := fun s hN => one_ln (lr_at h (kp_take s) hN)
theorem ln_branchesN {lst : Pz → Cm × Pz} {N : Nat} (hk : KR lst) (h : Lr N lst) : ∀ n, Lr N (Pz.branchesN lst n)
 | 0 => fun s _ => cm0_ln
 | n + 1 => fun s hN => by
   have k1 : Kp s ((lst s.take).2.want kThen) := ((kp_take s).trans (hk _)).trans (kp_want _ _)
   have k2 := k1.trans (hk _)
   have a1 := lr_at h (kp_take s) hN
   have a2 := lr_at h k1 hN
   unfold Pz.branchesN
   simp only
   split
   ·exact three_ln a1 a2 (ln_branchesN hk h n _ (lee k2.1 hN))
   ·split
    ·exact three_ln a1 a2 (lr_at h (k2.trans (kp_take _)) hN)
    ·exact two_ln a1 a2
theorem ln_doGroup {lst : Pz → Cm × Pz} {N : Nat} (h : Lr N lst) : Lr N (Pz.doGroup lst) := fun s hN => lr_at h (kp_want s _) hN
theorem ln_loop {lst : Pz → Cm × Pz} {N : Nat} (hk : KR lst) (h : Lr N lst) (k : Int) : Lr N (fun s => Pz.loop lst k s) := fun s hN => two_ln (lr_at h (kp_take s) hN) (ln_doGroup h _ (lee ((kp_take s).trans (hk _)).1 hN))
theorem ln_each {lst : Pz → Cm × Pz} {N : Nat} (hB : N ≤ 4990) (h : Lr N lst) : Lr N (Pz.each lst) := fun s hN => by
 have k1 : Kp s ((s.take.name.2.skips semi).gap) := (((kp_take s).trans (kp_name _)).trans (kp_skips _ _)).trans (kp_gap _)
 unfold Pz.each
 simp only
 split
 ·have k2 := (k1.trans (kp_take _)).trans (kp_words _)
  have k3 : Kp s (if ((s.take.name.2.skips semi).gap).take.words.2.ends = true then ((s.take.name.2.skips semi).gap).take.words.2.endS else ((s.take.name.2.skips semi).gap).take.words.2.misfit) := by
   refine k2.trans ?_
   split
   ·exact kp_endS _
   ·exact kp_misfit _
  have hw := wordsN_ln ((s.take.name.2.skips semi).gap).take.toks.length ((s.take.name.2.skips semi).gap).take
  have hw2 := (k1.trans (kp_take _)).1
  exact .mk _ _ _ _ _ _ _ _ _ ⟨by decide, lee hw (by omega), by decide, by simp, by decide⟩ (fun c hc => by rw [List.mem_singleton.1 hc]; exact ln_doGroup h _ (lee k3.1 hN)) (fun _ h => by cases h) (fun _ h => by cases h)
 ·exact .mk _ _ _ _ _ _ _ _ _ ⟨by decide, by decide, by decide, by simp, by decide⟩ (fun c hc => by rw [List.mem_singleton.1 hc]; exact ln_doGroup h _ (lee k1.1 hN)) (fun _ h => by cases h) (fun _ h => by cases h)
theorem ln_item {lst : Pz → Cm × Pz} {N : Nat} (hB : N ≤ 4990) (h : Lr N lst) {s : Pz} (hN : s.toks.length ≤ N) : ((Pz.item lst s).1.1.length ≤ 9000 ∧ (Pz.item lst s).1.2.length ≤ 9000) ∧ ∀ c ∈ (Pz.item lst s).1.2, LnC c := by
 have k0 := (kp_skips s kLp).trans (kp_word _)
 have k1 : Kp s (itS s) := ((k0.trans (kp_altsN _ _)).trans (kp_want _ _)).trans (kp_gap _)
 have ha := altsN_ln (s.skips kLp).word.2.toks.length (s.skips kLp).word.2
 have e : Pz.item lst s = if (itS s).sees [kDsemi, kEsac] then (((s.skips kLp).word.1 :: (altsN (s.skips kLp).word.2.toks.length (s.skips kLp).word.2).1, []), itS s) else (((s.skips kLp).word.1 :: (altsN (s.skips kLp).word.2.toks.length (s.skips kLp).word.2).1, [(lst (itS s)).1]), (lst (itS s)).2) := by
  unfold Pz.item itS
  simp only
 have h0 := k0.1
 rw [e]
 split
 ·exact ⟨⟨by simp only [List.length_cons]; omega, by simp⟩, fun c hc => by cases hc⟩
 ·exact ⟨⟨by simp only [List.length_cons]; omega, by simp⟩, fun c hc => by rw [List.mem_singleton.1 hc]; exact lr_at h k1 hN⟩
theorem ln_itemsN {lst : Pz → Cm × Pz} {N : Nat} (hB : N ≤ 4990) (hk : KR lst) (h : Lr N lst) : ∀ (n : Nat) {s : Pz}, s.toks.length ≤ N → (Pz.itemsN lst n s).1.length ≤ n ∧ ∀ x ∈ (Pz.itemsN lst n s).1, (x.1.length ≤ 9000 ∧ x.2.length ≤ 9000) ∧ ∀ c ∈ x.2, LnC c
 | 0, s, _ => ⟨ler _, fun x hx => by cases hx⟩
 | n + 1, s, hN => by
   rw [itemsN_succ]
   split
   ·exact ⟨Nat.zero_le _, fun x hx => by cases hx⟩
   ·split
    ·have k1 : Kp s (Pz.item lst s).2.take.gap := ((kp_item hk s).trans (kp_take _)).trans (kp_gap _)
     have ih := ln_itemsN hB hk h n (lee k1.1 hN)
     refine ⟨Nat.succ_le_succ ih.1, fun x hx => ?_⟩
     rcases List.mem_cons.1 hx with rfl | hx
     ·exact ln_item hB h hN
     ·exact ih.2 x hx
    ·exact ⟨Nat.succ_le_succ (Nat.zero_le _), fun x hx => by rw [List.mem_singleton.1 hx]; exact ln_item hB h hN⟩
theorem ln_choice {lst : Pz → Cm × Pz} {N : Nat} (hB : N ≤ 4990) (hk : KR lst) (h : Lr N lst) : Lr N (Pz.choice lst) := fun s hN => by
 have k1 : Kp s ((s.take.word.2.gap.want kIn).gap) := ((((kp_take s).trans (kp_word _)).trans (kp_gap _)).trans (kp_want _ _)).trans (kp_gap _)
 have hi := ln_itemsN hB hk h (((s.take.word.2.gap.want kIn).gap).toks.length + 1) (lee k1.1 hN)
 have h1 := k1.1
 exact .mk _ _ _ _ _ _ _ _ _ ⟨by decide, by simp, by decide, by decide, lee hi.1 (by omega)⟩ (fun _ h => by cases h) (fun x hx => (hi.2 x hx).1) (fun x hx => (hi.2 x hx).2)
theorem ln_begin {lst : Pz → Cm × Pz} {N : Nat} (hB : N ≤ 4990) (hk : KR lst) (h : Lr N lst) {t : ByteArray} {r : Pz → Cm × Pz} (hr : Pz.beginOf lst t = some r) : Lr N r := by
 unfold Pz.beginOf at hr
 split at hr
 ·injection hr with hr; subst hr; exact ln_enclosed h _ _
 ·split at hr
  ·injection hr with hr; subst hr; exact ln_enclosed h _ _
  ·split at hr
   ·injection hr with hr; subst hr; exact fun s hN => ln_branchesN hk h _ s hN
   ·split at hr
    ·injection hr with hr; subst hr; exact ln_loop hk h _
    ·split at hr
     ·injection hr with hr; subst hr; exact ln_loop hk h _
     ·split at hr
      ·injection hr with hr; subst hr; exact ln_each hB h
      ·split at hr
       ·injection hr with hr; subst hr; exact ln_choice hB hk h
       ·cases hr
theorem ln_within {r : Pz → Cm × Pz} {N : Nat} (h : Lr N r) : Lr N (Pz.within r) := fun s hN => by
 unfold Pz.within
 split
 ·exact cm0_ln
 ·exact h { s with deep := s.deep + 1 } hN
theorem ln_compound {lst : Pz → Cm × Pz} {N : Nat} (hB : N ≤ 4990) (hk : KR lst) (h : Lr N lst) : Lr N (Pz.compound lst) := fun s hN => by
 unfold Pz.compound
 split
 ·exact cm0_ln
 ·next r hr =>
  have k1 := (kr_within (kr_begin hk hr) s).1
  exact ln_set (ln_within (ln_begin hB hk h hr) s hN) (lee (redirsN_ln _ _) (by omega))
theorem ln_function {lst : Pz → Cm × Pz} {N : Nat} (hB : N ≤ 4990) (hk : KR lst) (h : Lr N lst) : Lr N (Pz.function lst) := fun s hN => by
 have k1 : Kp s (((s.name.2.want kLp).want kRp).gap) := (((kp_name s).trans (kp_want _ _)).trans (kp_want _ _)).trans (kp_gap _)
 have h1 := ln_compound hB hk h _ (lee k1.1 hN)
 exact .mk _ _ _ _ _ _ _ _ _ ⟨by decide, by decide, ln_redirs h1, by simp, by decide⟩ (fun c hc => by rw [List.mem_singleton.1 hc]; exact ln_set h1 (by decide)) (fun _ h => by cases h) (fun _ h => by cases h)
theorem ln_command {lst : Pz → Cm × Pz} {N : Nat} (hB : N ≤ 4990) (hk : KR lst) (h : Lr N lst) : Lr N (Pz.command lst) := fun s hN => by
 unfold Pz.command
 split
 ·exact ln_compound hB hk h s hN
 ·split
  ·exact cm0_ln
  ·split
   ·exact ln_within (ln_function hB hk h) s hN
   ·exact simple_ln (lee hN hB)
theorem ln_pipesN {lst : Pz → Cm × Pz} {N : Nat} (hB : N ≤ 4990) (hk : KR lst) (h : Lr N lst) : ∀ (n : Nat) {s : Pz}, s.toks.length ≤ N → (Pz.pipesN lst n s).1.length ≤ n ∧ ∀ c ∈ (Pz.pipesN lst n s).1, LnC c
 | 0, s, _ => ⟨ler _, fun c hc => by cases hc⟩
 | n + 1, s, hN => by
   unfold Pz.pipesN
   split
   ·have k1 : Kp s s.take.gap := (kp_take s).trans (kp_gap _)
    have k2 := k1.trans (kr_command hk _)
    have ih := ln_pipesN hB hk h n (lee k2.1 hN)
    refine ⟨Nat.succ_le_succ ih.1, fun c hc => ?_⟩
    rcases List.mem_cons.1 hc with rfl | hc
    ·exact ln_command hB hk h _ (lee k1.1 hN)
    ·exact ih.2 c hc
   ·exact ⟨Nat.zero_le _, fun c hc => by cases hc⟩
theorem ln_pipeline {lst : Pz → Cm × Pz} {N : Nat} (hB : N ≤ 4990) (hk : KR lst) (h : Lr N lst) : Lr N (Pz.pipeline lst) := fun s hN => by
 have k0 := (kp_skips s kNot).1
 have k1 := ((kp_skips s kNot).trans (kr_command hk _)).1
 have h1 := ln_command hB hk h _ (lee k0 hN)
 have h2 := ln_pipesN hB hk h ((s.skips kNot).command lst).2.toks.length (lee k1 hN)
 unfold Pz.pipeline
 simp only
 split
 ·exact h1
 ·exact ln0 _ _ _ (by rw [List.length_cons]; omega) (fun c hc => by
   rcases List.mem_cons.1 hc with rfl | hc
   ·exact h1
   ·exact h2.2 c hc)
theorem ln_andOrN {lst : Pz → Cm × Pz} {N : Nat} (hB : N ≤ 4990) (hk : KR lst) (h : Lr N lst) : ∀ (n : Nat) {c : Cm} {s : Pz}, s.toks.length ≤ N → LnC c → LnC (Pz.andOrN lst n c s).1
 | 0, c, s, _, hc => hc
 | n + 1, c, s, hN, hc => by
   rw [andOrN_succ]
   split
   ·have k1 : Kp s s.take.gap := (kp_take s).trans (kp_gap _)
    exact ln_andOrN hB hk h n (lee (k1.trans (kr_pipeline hk _)).1 hN) (two_ln hc (ln_pipeline hB hk h _ (lee k1.1 hN)))
   ·exact hc
theorem ln_andOr {lst : Pz → Cm × Pz} {N : Nat} (hB : N ≤ 4990) (hk : KR lst) (h : Lr N lst) : Lr N (Pz.andOr lst) := fun s hN => ln_andOrN hB hk h _ (lee (kr_pipeline hk s).1 hN) (ln_pipeline hB hk h s hN)
theorem ln_moreN {lst : Pz → Cm × Pz} {N : Nat} (hB : N ≤ 4990) (hk : KR lst) (h : Lr N lst) : ∀ (n : Nat) {s : Pz}, s.toks.length ≤ N → (Pz.moreN lst n s).1.length ≤ n ∧ ∀ c ∈ (Pz.moreN lst n s).1, LnC c
 | 0, s, _ => ⟨ler _, fun c hc => by cases hc⟩
 | n + 1, s, hN => by
   rw [moreN_succ]
   split
   ·split
    ·have ih := ln_moreN hB hk h n (lee ((kp_endS s).trans (kr_andOr hk _)).1 hN)
     refine ⟨Nat.succ_le_succ ih.1, fun c hc => ?_⟩
     rcases List.mem_cons.1 hc with rfl | hc
     ·exact ln_andOr hB hk h _ (lee (kp_endS s).1 hN)
     ·exact ih.2 c hc
    ·exact ⟨Nat.zero_le _, fun c hc => by cases hc⟩
   ·exact ⟨Nat.zero_le _, fun c hc => by cases hc⟩
theorem ln_listG {lst : Pz → Cm × Pz} {N : Nat} (hB : N ≤ 4990) (hk : KR lst) (h : Lr N lst) : Lr N (Pz.listG lst) := fun s hN => by
 have k1 := ((kp_gap s).trans (kr_andOr hk _)).1
 have h2 := ln_moreN hB hk h ((Pz.andOr lst s.gap).2.toks.length + 1) (lee k1 hN)
 exact seqC_ln (by have := h2.1; rw [List.length_cons]; omega) (fun c hc => by
  rcases List.mem_cons.1 hc with rfl | hc
  ·exact ln_andOr hB hk h _ (lee (kp_gap s).1 hN)
  ·exact h2.2 c hc)
theorem ln_lineN {lst : Pz → Cm × Pz} {N : Nat} (hB : N ≤ 4990) (hk : KR lst) (h : Lr N lst) : ∀ (n : Nat) {s : Pz}, s.toks.length ≤ N → (Pz.lineN lst n s).1.length ≤ n ∧ ∀ c ∈ (Pz.lineN lst n s).1, LnC c
 | 0, s, _ => ⟨ler _, fun c hc => by cases hc⟩
 | n + 1, s, hN => by
   rw [lineN_succ]
   split
   ·split
    ·have ih := ln_lineN hB hk h n (lee ((kp_take s).trans (kr_andOr hk _)).1 hN)
     refine ⟨Nat.succ_le_succ ih.1, fun c hc => ?_⟩
     rcases List.mem_cons.1 hc with rfl | hc
     ·exact ln_andOr hB hk h _ (lee (kp_take s).1 hN)
     ·exact ih.2 c hc
    ·exact ⟨Nat.zero_le _, fun c hc => by cases hc⟩
   ·exact ⟨Nat.zero_le _, fun c hc => by cases hc⟩
theorem ln_line {lst : Pz → Cm × Pz} {N : Nat} (hB : N ≤ 4990) (hk : KR lst) (h : Lr N lst) : Lr N (Pz.line lst) := fun s hN => by
 have k1 := (kr_andOr hk s).1
 have h2 := ln_lineN hB hk h ((Pz.andOr lst s).2.toks.length + 1) (lee k1 hN)
 exact seqC_ln (by have := h2.1; rw [List.length_cons]; omega) (fun c hc => by
  rcases List.mem_cons.1 hc with rfl | hc
  ·exact ln_andOr hB hk h s hN
  ·exact h2.2 c hc)
theorem ln_list {N : Nat} (hB : N ≤ 4990) : ∀ n, Lr N (Pz.list n)
 | 0 => fun _ _ => cm0_ln
 | n + 1 => ln_listG hB (kr_list n) (ln_list hB n)
theorem ln_linesN {lst : Pz → Cm × Pz} {N : Nat} (hB : N ≤ 4990) (hk : KR lst) (h : Lr N lst) : ∀ (n : Nat) {s : Pz}, s.toks.length ≤ N → (Pz.linesN lst n s).1.length ≤ n ∧ ∀ c ∈ (Pz.linesN lst n s).1, LnC c
 | 0, s, _ => ⟨ler _, fun c hc => by cases hc⟩
 | n + 1, s, hN => by
   unfold Pz.linesN
   split
   ·have ih := ln_linesN hB hk h n (lee ((kr_line hk s).trans (kp_gap _)).1 hN)
    simp only
    split
    ·refine ⟨by rw [List.length_append, List.length_singleton]; omega, fun c hc => ?_⟩
     rcases List.mem_append.1 hc with hc | hc
     ·rw [List.mem_singleton.1 hc]
      exact ln_line hB hk h s hN
     ·exact ih.2 c hc
    ·exact ⟨by rw [List.length_append, List.length_nil]; omega, fun c hc => by
      rcases List.mem_append.1 hc with hc | hc
      ·cases hc
      ·exact ih.2 c hc⟩
   ·exact ⟨Nat.zero_le _, fun c hc => by cases hc⟩
theorem prsL_ln (l : List UInt8) (hl : (lexL l).1.length ≤ 4096) : (prsL l).1.length ≤ 9000 ∧ ∀ c ∈ (prsL l).1, LnC c := by
 have h := ln_linesN (N := 4096) (by decide) (kr_list _) (ln_list (by decide) ((lexL l).1.length + 1)) ((lexL l).1.length + 1) (s := (⟨(lexL l).1, 0, l.length, (lexL l).2.2, (lexL l).2.1, 0, 0⟩ : Pz).gap) (lee (kp_gap _).1 hl)
 exact ⟨lee h.1 (by omega), h.2⟩
theorem rsame_all : ∀ N : Nat, SameN 24 N
 | 0 => fun a b x y w A B hN => absurd hN (by cases a <;> simp)
 | N + 1 => by
   intro a b x y w A B hN hx hy hA hB
   have HS := hide (rsame_all N)
   obtain ⟨ada, capa, rfl, hla⟩ := hx.len
   obtain ⟨adb, capb, rfl, hlb⟩ := hy.len
   by_cases hab : a.length = b.length
   ·have HX := hide hx
    have HY := hide hy
    have HAB := hide hab
    clear hx hy
    rw [← hab]
    have HSN := hide hN
    clear hab hlb hN
    go_enter Tryz.func24, Tryz.ntmps24
    go_wp2
    go_loopw [5] (fun i wr => ∃ k : Nat, k ≤ a.length ∧ i = .int .i64 k ∧ Hid (sameW (a.drop k) (b.drop k) = sameW a b) ∧ Hid (Below w.heap.size w wr)) (fun i _ => a.length - (intOf i).toNat)
    case atStart => exact ⟨0, Nat.zero_le _, rfl, hide rfl, hide (Below.refl _ _)⟩
    case round =>
     obtain ⟨k, hk, rfl, HE, HB⟩ := hrel
     by_cases hlt : k < a.length
     ·obtain ⟨p, hp⟩ := get_ex hlt
      obtain ⟨q, hq⟩ := get_ex (l := b) (k := k) (by have := uh HAB; omega)
      obtain ⟨ga, oa, va, ea, hga, a0, a1, a2, a3, a4, a5, hsa⟩ := ((uh HX).below (uh HB) hA).part hp
      have hy' := (uh HY).below (uh HB) hB
      rw [← uh HAB] at hy'
      obtain ⟨gb, ob, vb, eb, hgb, b0, b1, b2, b3, b4, b5, hsb⟩ := hy'.part hq
      obtain ⟨ada', capa', rfl, _⟩ := hsa.len
      obtain ⟨adb', capb', rfl, _⟩ := hsb.len
      have hga' := lle (hA _ hga) (uh HB).size
      have hgb' := lle (hB _ hgb) (uh HB).size
      have HSP : Hid (∀ w1, Below wr.heap.size wr w1 → Calls Tryz.prog 24 #[.slice ada' p.sub.length capa', .slice adb' q.sub.length capb'] w1 fun e w' => e = .returned (.bool (sameW p.sub q.sub)) ∧ Below w1.heap.size w1 w') := hide (fun w1 h1 =>
       uh HS p.sub q.sub _ _ w1 A B (by have := sub_lt p a (mem_of hp); have := uh HSN; omega) (hsa.below h1 (fun k h => lle (hA k h) (uh HB).size)) (hsb.below h1 (fun k h => lle (hB k h) (uh HB).size))
        (fun k h => lle (hA k h) (lee (uh HB).size h1.size)) (fun k h => lle (hB k h) (lee (uh HB).size h1.size)))
      have HBB : Hid (∀ x y, Below wr.heap.size wr ((wr.alloc x).alloc y)) := hide (fun x y => ((Below.refl _ wr).alloc (ler _) _).alloc (by simp) _)
      have HST : Hid (sameW (a.drop k) (b.drop k) = ((headP p q && sameW p.sub q.sub) && sameW (a.drop (k + 1)) (b.drop (k + 1)))) := hide ((drop_same hp hq).trans (by rw [sameP_head]))
      clear hp hq hsa hsb hy' hga hgb
      subst ea eb
      rcases Bool.eq_false_or_eq_true (sameW p.sub q.sub) with hpq | hpq
      all_goals
       rw [hpq] at HSP HST
       clear hpq
       go_wp2_with (go_at_call 24; refine (uh HSP _ (uh HBB _ _)).mono ?_; rintro e w1 ⟨rfl, b1⟩)
       all_goals
        try rw [BA_toList, BA_toList] at *
        first
        | (go_ret
           refine ⟨ret_bool (by rw [← uh HE, uh HST]; simp [headP, *]), ?_⟩
           first
           | exact (uh HB).trans ((uh HBB _ _).mono (uh HB).size)
           | exact (uh HB).trans (((uh HBB _ _).trans (b1.mono (by simp; omega))).mono (uh HB).size))
        | (go_roundw
           case rel => exact ⟨k + 1, by omega, by go_num, hide (by rw [← uh HE, uh HST]; simp [headP, *]), hide ((uh HB).trans (((uh HBB _ _).trans (b1.mono (by simp; omega))).mono (uh HB).size))⟩
           case measure => simp [intOf]; omega)
     ·go_wp2
      go_ret
      exact ⟨ret_bool (by rw [← uh HE, List.drop_eq_nil_of_le (by omega), List.drop_eq_nil_of_le (by have := uh HAB; omega), sameW_nil]), uh HB⟩
   ·have hne : ((a.length : Int) == (b.length : Int)) = false := by rw [beq_eq_false_iff_ne]; omega
    go_enter Tryz.func24, Tryz.ntmps24
    go_wp2
    go_ret
    exact ⟨ret_bool (sameW_len hab).symm, Below.refl _ _⟩
theorem rsame_any (a b : List Prt) (x y : Value) (w : World) (A B : Nat → Prop) (hx : WAt w A x a) (hy : WAt w B y b) (hA : ∀ k, A k → k < w.heap.size) (hB : ∀ k, B k → k < w.heap.size) :
 Calls Tryz.prog 24 #[x, y] w fun e w' => e = .returned (.bool (sameW a b)) ∧ Below w.heap.size w w' := rsame_all _ a b x y w A B (ler _) hx hy hA hB
end Go.Proofs.YtojjfdobilkknaaGreatDoor

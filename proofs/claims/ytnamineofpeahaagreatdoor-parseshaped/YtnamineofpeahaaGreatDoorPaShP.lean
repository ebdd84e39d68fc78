/-
  The parser, without memory: a command that is read without an error has the parts of its kind.
-/
import Derived.Test.YtnamineofpeahaaGreatDoorPaSw
namespace Go.Proofs.YtnamineofpeahaaGreatDoor

/-- Kind, Not, and how many Lets, Words, Redirs, Cmds, bytes of its Name, Every, Items. -/
inductive ShK : Int → Bool → Nat → Nat → Nat → Nat → Nat → Bool → Nat → Prop
 | simple (a b r : Nat) (h : 0 < a + b + r) (h2 : a + b + r ≤ 5000) : ShK 1 false a b r 0 0 false 0
 | pipe (no : Bool) (n : Nat) (h : 1 < n ∨ (n = 1 ∧ no = true)) : ShK 2 no 0 0 0 n 0 false 0
 | and : ShK 3 false 0 0 0 2 0 false 0
 | or : ShK 4 false 0 0 0 2 0 false 0
 | seq (n : Nat) (h : 1 < n) : ShK 5 false 0 0 0 n 0 false 0
 | group (r : Nat) : ShK 6 false 0 0 r 1 0 false 0
 | sub (r : Nat) : ShK 7 false 0 0 r 1 0 false 0
 | if2 (r n : Nat) (h : n = 2 ∨ n = 3) : ShK 8 false 0 0 r n 0 false 0
 | while (r : Nat) : ShK 9 false 0 0 r 2 0 false 0
 | until (r : Nat) : ShK 10 false 0 0 r 2 0 false 0
 | for (w r m : Nat) (ev : Bool) (h : ev = true → w = 0) (hm : 0 < m) : ShK 11 false 0 w r 1 m ev 0
 | case (r i : Nat) : ShK 12 false 0 1 r 0 0 false i
 | func (r m : Nat) (hm : 0 < m) : ShK 13 false 0 0 r 1 m false 0
def Rdok (r : Int × Int × Wd) : Prop := (0 ≤ r.1 ∧ r.1 ≤ 999) ∧ 1 ≤ r.2.1 ∧ r.2.1 ≤ 6
inductive ShC : Cm → Prop
 | mk (k : Int) (no : Bool) (lets : List (List UInt8 × Wd)) (words : List Wd) (redirs : List (Int × Int × Wd)) (cmds : List Cm) (name : List UInt8) (ev : Bool) (items : List (List Wd × List Cm)) (h : ShK k no lets.length words.length redirs.length cmds.length name.length ev items.length) (hn : redirs.length ≤ 5000 ∧ cmds.length ≤ 5000 ∧ items.length ≤ 5000) (hr : ∀ r ∈ redirs, Rdok r) (hc : ∀ c ∈ cmds, ShC c) (hi : ∀ x ∈ items, x.1 ≠ [] ∧ x.2.length ≤ 1) (hb : ∀ x ∈ items, ∀ c ∈ x.2, ShC c) : ShC (.mk k no lets words redirs cmds name ev items)
/-- A command of many rows of commands alone. -/
theorem ShC.few {k : Int} {no : Bool} {cmds : List Cm} (h : ShK k no 0 0 0 cmds.length 0 false 0) (hc : ∀ c ∈ cmds, ShC c) (hn : cmds.length ≤ 5000) : ShC (.mk k no [] [] [] cmds [] false []) := .mk k no [] [] [] cmds [] false [] h ⟨Nat.zero_le _, hn, Nat.zero_le _⟩ (fun _ h => by cases h) hc (fun _ h => by cases h) (fun _ h => by cases h)
theorem ShC.redirs {c : Cm} (h : ShC c) : (∀ r ∈ c.redirs, Rdok r) ∧ c.redirs.length ≤ 5000 := by
 cases h with
 | mk k no lets words redirs cmds name ev items h hn hr hc hi hb => exact ⟨hr, hn.1⟩
/-- What may have Redirs set: the compound ones. -/
theorem ShC.set {c : Cm} (h : ShC c) (hk : 6 ≤ c.kind) (q : List (Int × Int × Wd)) (hq : ∀ r ∈ q, Rdok r) (hl : q.length ≤ 5000) : ShC (c.setRedirs q) := by
 cases h with
 | mk k no lets words redirs cmds name ev items h hn hr hc hi hb =>
   refine .mk k no lets words q cmds name ev items ?_ ⟨hl, hn.2⟩ hq hc hi hb
   change 6 ≤ k at hk
   generalize lets.length = a at h ⊢
   generalize words.length = b at h ⊢
   generalize redirs.length = r at h
   generalize cmds.length = n at h ⊢
   generalize name.length = m at h ⊢
   generalize items.length = i at h ⊢
   cases h with
   | simple => exact absurd hk (by decide)
   | pipe => exact absurd hk (by decide)
   | and => exact absurd hk (by decide)
   | or => exact absurd hk (by decide)
   | seq => exact absurd hk (by decide)
   | group => exact .group _
   | sub => exact .sub _
   | if2 _ _ h => exact .if2 _ _ h
   | «while» => exact .while _
   | «until» => exact .until _
   | «for» _ _ _ _ h hm => exact .for _ _ _ _ h hm
   | case => exact .case _ _
   | func _ _ hm => exact .func _ _ hm
theorem kind_set (c : Cm) (q : List (Int × Int × Wd)) : (c.setRedirs q).kind = c.kind := by
 cases c
 rfl
namespace Pz
theorem fail_we (s : Pz) {e : Int} (p : Int) (he : e ≠ 0) : (s.fail e p).we ≠ 0 := by
 unfold fail
 split
 ·exact he
 ·next h => exact h
theorem misfit_we (s : Pz) : s.misfit.we ≠ 0 := by
 unfold misfit
 split
 ·exact fail_we _ _ (by decide)
 ·split
  ·next h => exact fail_we _ _ h
  ·exact fail_we _ _ (by decide)
theorem next_nil {s : Pz} (h : s.toks = []) : s.next = tok0 := by
 unfold next
 rw [h]
 rfl
theorem sees_toks {s : Pz} {l : List ByteArray} (h : s.sees l = true) (hl : l.any (fun t => decide (tok0.text = t)) = false) : s.toks ≠ [] := fun e => by
 unfold sees at h
 rw [next_nil e, hl] at h
 cases h
theorem digN_rng : ∀ (t : List UInt8) (n : Int), (∀ c ∈ t, digB (c.toNat : Int) = true) → 0 ≤ n → n ≤ 999 → (digN n t).2 = 0 → 0 ≤ (digN n t).1 ∧ (digN n t).1 ≤ 999
 | [], n, _, h0, h1, _ => ⟨h0, h1⟩
 | c :: r, n, hc, h0, h1, h => by
   rw [digN] at h ⊢
   split at h
   ·next hx => cases h
   ·next hx =>
    rw [if_neg hx]
    have hd := hc c (by simp)
    unfold digB at hd
    simp at hd
    exact digN_rng r _ (fun x h => hc x (by simp [h])) (by omega) (by omega) h
theorem spanN_whole {p : Int → Bool} {l : List UInt8} (h : l.length ≤ spanN p l) : ∀ c ∈ l, p (c.toNat : Int) = true := fun c hc => by
 have e : l.takeWhile (fun c => p (c.toNat : Int)) = l := (List.takeWhile_prefix _).eq_of_length (Nat.le_antisymm (List.takeWhile_prefix _).length_le h)
 rw [← e] at hc
 exact List.all_eq_true.1 List.all_takeWhile c hc
theorem numN_rng (t : List UInt8) (h : (numN t).2 = 0) : 0 ≤ (numN t).1 ∧ (numN t).1 ≤ 999 := by
 unfold numN at h ⊢
 split at h
 ·cases h
 ·next hx =>
  rw [if_neg hx]
  exact digN_rng t 0 (spanN_whole (by omega)) (by decide) (by decide) h
theorem redirOf_mem {t : ByteArray} (h : t ∈ signs.map (·.1)) : (0 ≤ (redirOf t).1 ∧ (redirOf t).1 ≤ 999) ∧ 1 ≤ (redirOf t).2 ∧ (redirOf t).2 ≤ 6 := by
 simp only [signs, List.map_cons, List.map_nil, List.mem_cons, List.not_mem_nil, or_false] at h
 rcases h with rfl | rfl | rfl | rfl | rfl | rfl | rfl | rfl <;> decide
theorem redirOf_tok0 : (redirOf tok0.text).2 = 0 := by decide
theorem word_nil {s : Pz} (h : s.toks = []) : s.word.2.we ≠ 0 := fun hw => by
 have h1 := (sw_parts s.wantWord.2 0 s.wantWord.1.text s.wantWord.1.pos).2 hw
 unfold wantWord seesWord at h1
 rw [next_nil h] at h1
 exact misfit_we s h1
theorem redir_sh {s : Pz} (hq : Iq s.toks) (hs : s.seesRedir = true) (h : s.redir.2.we = 0) : Rdok s.redir.1 := by
 have hw : ∀ s1 : Pz, (if (redirOf s1.next.text).2 = 6 then s1.take.inPlace s1.next else s1.take.word).2.we = 0 → s1.we = 0 := fun s1 h1 => by
  split at h1
  ·exact (sw_take s1).2 ((sw_inPlace _ _).2 h1)
  ·exact (sw_take s1).2 ((sw_word _).2 h1)
 by_cases hk : s.next.kind = 4
 ·have e : s.redir = ((s.number.1, (redirOf s.number.2.next.text).2, (if (redirOf s.number.2.next.text).2 = 6 then s.number.2.take.inPlace s.number.2.next else s.number.2.take.word).1), (if (redirOf s.number.2.next.text).2 = 6 then s.number.2.take.inPlace s.number.2.next else s.number.2.take.word).2) := by
   unfold redir
   simp [hk]
  rw [e] at h ⊢
  have h1 := hw _ h
  have hn : (numN s.next.text.data.toList).2 = 0 := by
   by_cases hn : (numN s.next.text.data.toList).2 = 0
   ·exact hn
   ·exfalso
    unfold number at h1
    simp only [if_neg hn] at h1
    exact fail_we _ _ hn h1
  have e2 : s.number = ((numN s.next.text.data.toList).1, s.take) := by
   unfold number
   simp only [if_pos hn]
  rw [e2] at h ⊢
  refine ⟨numN_rng _ hn, ?_⟩
  show 1 ≤ (redirOf s.take.next.text).2 ∧ (redirOf s.take.next.text).2 ≤ 6
  cases ht : s.toks with
  | nil => rw [next_nil ht] at hk; exact absurd hk (by decide)
  | cons t r =>
    cases hr : r with
    | nil =>
      exfalso
      have h3 : s.take.toks = [] := by unfold take; rw [ht, hr]; rfl
      have h4 : s.take.take.toks = [] := by show s.take.toks.tail = []; rw [h3]; rfl
      rw [next_nil h3] at h
      rw [if_neg (by rw [redirOf_tok0]; decide)] at h
      exact word_nil h4 h
    | cons u r2 =>
      have h3 : s.take.next = u := by unfold take next; rw [ht, hr]; rfl
      have h4 : s.next = t := by unfold next; rw [ht]; rfl
      rw [h3]
      exact hq 0 t u (by rw [ht]; rfl) (by rw [ht, hr]; rfl) (h4 ▸ hk)
 ·have hm : s.next.text ∈ signs.map (·.1) := by
   unfold seesRedir at hs
   rw [decide_eq_false hk, Bool.false_or] at hs
   unfold sees at hs
   obtain ⟨x, hx, h2⟩ := List.any_eq_true.1 hs
   exact of_decide_eq_true h2 ▸ hx
  have e : s.redir = (((redirOf s.next.text).1, (redirOf s.next.text).2, (if (redirOf s.next.text).2 = 6 then s.take.inPlace s.next else s.take.word).1), (if (redirOf s.next.text).2 = 6 then s.take.inPlace s.next else s.take.word).2) := by
   unfold redir
   simp [hk]
  rw [e]
  exact redirOf_mem hm
theorem redirsN_sh : ∀ (n : Nat) {s : Pz}, Iq s.toks → (redirsN n s).2.we = 0 → ∀ r ∈ (redirsN n s).1, Rdok r
 | 0, s, _, _ => fun r h => by cases h
 | n + 1, s, hq, h => by
   unfold redirsN at h ⊢
   split at h
   ·next hs =>
    rw [if_pos hs]
    intro r hr
    have h1 := (sw_redirsN n _).2 h
    rcases List.mem_cons.1 hr with rfl | hr
    ·exact redir_sh hq hs h1
    ·exact redirsN_sh n ((sw_redir s).1 hq) h r hr
   ·next hs =>
    rw [if_neg hs]
    intro r hr
    cases hr
theorem redirsN_len : ∀ (n : Nat) (s : Pz), (redirsN n s).1.length ≤ n
 | 0, s => Nat.le_refl _
 | n + 1, s => by
   unfold redirsN
   split
   ·exact Nat.succ_le_succ (redirsN_len n _)
   ·exact Nat.zero_le _
def Smp.n (c : Smp) : Nat := c.lets.length + c.words.length + c.redirs.length
theorem simpleN_len : ∀ (n : Nat) (c : Smp) (s : Pz), (simpleN n c s).1.n ≤ c.n + n
 | 0, c, s => Nat.le_refl _
 | n + 1, c, s => by
   unfold simpleN
   split
   ·exact Nat.le_trans (simpleN_len n { c with redirs := c.redirs ++ [s.redir.1] } s.redir.2) (by unfold Smp.n; simp <;> omega)
   ·split
    ·exact Nat.le_trans (simpleN_len n { c with lets := c.lets ++ [s.lets.1] } s.lets.2) (by unfold Smp.n; simp <;> omega)
    ·split
     ·exact Nat.le_trans (simpleN_len n { c with words := c.words ++ [s.word.1] } s.word.2) (by unfold Smp.n; simp <;> omega)
     ·exact Nat.le_add_right _ _
theorem simpleN_sh : ∀ (n : Nat) (c : Smp) {s : Pz}, Iq s.toks → (simpleN n c s).2.we = 0 → (∀ r ∈ c.redirs, Rdok r) → (∀ r ∈ (simpleN n c s).1.redirs, Rdok r) ∧ c.n ≤ (simpleN n c s).1.n
 | 0, c, s, _, _, hc => ⟨hc, Nat.le_refl _⟩
 | n + 1, c, s, hq, h, hc => by
   unfold simpleN at h ⊢
   split at h
   ·next hs =>
    rw [if_pos hs]
    have h1 := (sw_simpleN n _ _).2 h
    have := simpleN_sh n _ ((sw_redir s).1 hq) h (fun r hr => by
     rcases List.mem_append.1 hr with hr | hr
     ·exact hc r hr
     ·rw [List.mem_singleton.1 hr]
      exact redir_sh hq hs h1)
    exact ⟨this.1, Nat.le_trans (by unfold Smp.n; simp <;> omega) this.2⟩
   ·next hs =>
    rw [if_neg hs]
    split at h
    ·next hl =>
     rw [if_pos hl]
     have := simpleN_sh n _ ((sw_lets s).1 hq) h hc
     exact ⟨this.1, Nat.le_trans (by unfold Smp.n; simp <;> omega) this.2⟩
    ·next hl =>
     rw [if_neg hl]
     split at h
     ·next hw =>
      rw [if_pos hw]
      have := simpleN_sh n _ ((sw_word s).1 hq) h hc
      exact ⟨this.1, Nat.le_trans (by unfold Smp.n; simp <;> omega) this.2⟩
     ·next hw =>
      rw [if_neg hw]
      exact ⟨hc, Nat.le_refl _⟩
theorem simple_sh {s : Pz} (hN : s.toks.length ≤ 4990) (hq : Iq s.toks) (h : s.simple.2.we = 0) : ShC s.simple.1 := by
 unfold simple at h ⊢
 split at h
 ·next hs =>
  rw [if_pos hs]
  obtain ⟨n, hn⟩ : ∃ n, s.toks.length = n + 1 := by
   cases ht : s.toks with
   | nil =>
     exfalso
     unfold seesWord seesRedir sees at hs
     rw [next_nil ht] at hs
     revert hs
     decide
   | cons t r => exact ⟨r.length, rfl⟩
  have h0 := simpleN_sh s.toks.length ⟨[], [], []⟩ hq h (fun r h => by cases h)
  have hz : (simpleN s.toks.length ⟨[], [], []⟩ s).1.lets.length + (simpleN s.toks.length ⟨[], [], []⟩ s).1.words.length + (simpleN s.toks.length ⟨[], [], []⟩ s).1.redirs.length ≤ 5000 := Nat.le_trans (simpleN_len _ ⟨[], [], []⟩ s) (by show 0 + _ ≤ _; omega)
  refine .mk _ _ _ _ _ _ _ _ _ (.simple _ _ _ ?_ hz) ⟨by omega, Nat.zero_le _, Nat.zero_le _⟩ h0.1 (fun _ h => by cases h) (fun _ h => by cases h) (fun _ h => by cases h)
  rw [hn] at h ⊢
  unfold simpleN at h ⊢
  have hlt : ∀ (c : Smp) {s' : Pz}, Iq s'.toks → (simpleN n c s').2.we = 0 → (∀ r ∈ c.redirs, Rdok r) → 0 < c.n → 0 < (simpleN n c s').1.n := fun c s' a b d e => Nat.lt_of_lt_of_le e (simpleN_sh n c a b d).2
  split at h
  ·next hr =>
   rw [if_pos hr]
   exact hlt _ ((sw_redir s).1 hq) h (fun r hx => by
    have h1 := (sw_simpleN n _ _).2 h
    rw [List.nil_append] at hx
    rw [List.mem_singleton.1 hx]
    exact redir_sh hq hr h1) (by unfold Smp.n; simp)
  ·next hr =>
   rw [if_neg hr]
   split at h
   ·next hl =>
    rw [if_pos hl]
    exact hlt _ ((sw_lets s).1 hq) h (fun r hx => by cases hx) (by unfold Smp.n; simp)
   ·next hl =>
    rw [if_neg hl]
    split at h
    ·next hw =>
     rw [if_pos hw]
     exact hlt _ ((sw_word s).1 hq) h (fun r hx => by cases hx) (by unfold Smp.n; simp)
    ·next hw =>
     exfalso
     revert hs
     simp only [hw, hr]
     decide
 ·exact absurd h (misfit_we s)
theorem name_sh {s : Pz} (h : s.name.2.we = 0) : 0 < s.name.1.length := by
 unfold name at h ⊢
 by_cases hn : isName s.next.text.data.toList = true
 ·simp only [if_pos hn] at h ⊢
  unfold isName at hn
  simp at hn
  rw [data_len]
  exact hn.1
 ·simp only [if_neg hn] at h
  exact absurd h (misfit_we s)
end Pz
open Pz
theorem seqC_sh {l : List Cm} (hl : l ≠ []) (hn : l.length ≤ 5000) (h : ∀ c ∈ l, ShC c) : ShC (seqC l) := by
 unfold seqC
 split
 ·next c => exact h c (by simp)
 ·next h2 =>
  refine .few (.seq _ ?_) h hn
  match l, hl with
  | [c], _ => exact absurd rfl (h2 c)
  | c :: d :: r, _ => simp
/-- A reader of states of fewer than N tokens reads what has the parts of its kind. -/
def Sr (N : Nat) (r : Pz → Cm × Pz) : Prop := ∀ s, s.toks.length < N → Iq s.toks → (r s).2.we = 0 → ShC (r s).1
theorem rs_step {lst : Pz → Cm × Pz} {N : Nat} (h : Sr N lst) {s t : Pz} (h1 : Kp s t) (h2 : Sw s t) (hN : s.toks.length < N) (hq : Iq s.toks) (h0 : (lst t).2.we = 0) : ShC (lst t).1 := h t (Nat.lt_of_le_of_lt h1.1 hN) (h2.1 hq) h0
theorem enclosed_sh {lst : Pz → Cm × Pz} {N : Nat} (h : Sr N lst) {k : Int} (hk6 : k = 6 ∨ k = 7) (c : ByteArray) {s : Pz} (hN : s.take.toks.length < N) (hq : Iq s.toks) (h0 : (Pz.enclosed lst k c s).2.we = 0) : ShC (Pz.enclosed lst k c s).1 ∧ 6 ≤ (Pz.enclosed lst k c s).1.kind := by
 have h1 := h s.take hN hq.tail ((sw_want _ c).2 h0)
 refine ⟨.few ?_ (fun c hc => by rw [List.mem_singleton.1 hc]; exact h1) (by simp), by show 6 ≤ k; omega⟩
 rcases hk6 with rfl | rfl
 ·exact .group 0
 ·exact .sub 0
theorem branchesN_sh {lst : Pz → Cm × Pz} {N : Nat} (hB : N ≤ 4990) (hk : KR lst) (hw : SR lst) (h : Sr N lst) : ∀ (n : Nat) {s : Pz}, s.toks.length ≤ n → s.toks ≠ [] → s.toks.length ≤ N → Iq s.toks → (Pz.branchesN lst n s).2.we = 0 → ShC (Pz.branchesN lst n s).1 ∧ 6 ≤ (Pz.branchesN lst n s).1.kind
 | 0, s, hn, hne, _, _, _ => absurd (List.eq_nil_of_length_eq_zero (by omega)) hne
 | n + 1, s, hn, hne, hN, hq, h0 => by
   have hlt := take_lt hne
   have k1 : Kp s.take (lst s.take).2 := hk _
   have w1 : Sw s.take (lst s.take).2 := hw _
   have k2 := k1.trans (kp_want _ kThen)
   have w2 := w1.trans (sw_want _ kThen)
   have k3 := k2.trans (hk _)
   have w3 := w2.trans (hw _)
   have hq1 := hq.tail
   obtain ⟨b, hb⟩ : ∃ b, b = lst ((lst s.take).2.want kThen) := ⟨_, rfl⟩
   rw [← hb] at k3 w3
   have go : b.2.we = 0 → ShC (lst s.take).1 ∧ ShC b.1 := fun e => by
    rw [hb] at e ⊢
    have e1 := (hw _).2 e
    exact ⟨h _ (by omega) hq1 ((sw_want _ _).2 e1), h _ (Nat.lt_of_le_of_lt k2.1 (by omega)) (w2.1 hq1) e⟩
   unfold Pz.branchesN at h0 ⊢
   simp only [← hb] at h0 ⊢
   split at h0
   ·next hs =>
    rw [if_pos hs]
    have h3 := branchesN_sh hB hk hw h n (s := b.2) (by have := k3.1; omega) (sees_toks hs (by decide)) (by have := k3.1; omega) (w3.1 hq1) h0
    have h4 := go ((sr_branchesN hw n _).2 h0)
    refine ⟨.few (.if2 0 3 (.inr rfl)) (fun c hc => ?_) (by simp), by show (6 : Int) ≤ 8; decide⟩
    simp only [List.mem_cons, List.not_mem_nil, or_false] at hc
    rcases hc with rfl | rfl | rfl
    ·exact h4.1
    ·exact h4.2
    ·exact h3.1
   ·next hs =>
    rw [if_neg hs]
    split at h0
    ·next he =>
     rw [if_pos he]
     have e1 := (sw_want _ _).2 h0
     have h3 := h b.2.take (by have := take_lt (sees_toks he (by decide)); have := k3.1; omega) (w3.1 hq1).tail e1
     have h4 := go ((sw_take _).2 ((hw _).2 e1))
     refine ⟨.few (.if2 0 3 (.inr rfl)) (fun c hc => ?_) (by simp), by show (6 : Int) ≤ 8; decide⟩
     simp only [List.mem_cons, List.not_mem_nil, or_false] at hc
     rcases hc with rfl | rfl | rfl
     ·exact h4.1
     ·exact h4.2
     ·exact h3
    ·next he =>
     rw [if_neg he]
     have h4 := go ((sw_want _ _).2 h0)
     refine ⟨.few (.if2 0 2 (.inl rfl)) (fun c hc => ?_) (by simp), by show (6 : Int) ≤ 8; decide⟩
     simp only [List.mem_cons, List.not_mem_nil, or_false] at hc
     rcases hc with rfl | rfl
     ·exact h4.1
     ·exact h4.2
theorem doGroup_sh {lst : Pz → Cm × Pz} {N : Nat} (h : Sr N lst) {s : Pz} (hN : s.toks.length < N) (hq : Iq s.toks) (h0 : (Pz.doGroup lst s).2.we = 0) : ShC (Pz.doGroup lst s).1 := rs_step h (kp_want s _) (sw_want s _) hN hq ((sw_want _ _).2 h0)
theorem loop_sh {lst : Pz → Cm × Pz} {N : Nat} (hk : KR lst) (hw : SR lst) (h : Sr N lst) {k : Int} (hk9 : k = 9 ∨ k = 10) {s : Pz} (hN : s.take.toks.length < N) (hq : Iq s.toks) (h0 : (Pz.loop lst k s).2.we = 0) : ShC (Pz.loop lst k s).1 ∧ 6 ≤ (Pz.loop lst k s).1.kind := by
 have h1 := doGroup_sh h (Nat.lt_of_le_of_lt (hk s.take).1 hN) ((hw s.take).1 hq.tail) h0
 have h2 := h s.take hN hq.tail ((sr_doGroup hw _).2 h0)
 refine ⟨.few ?_ (fun c hc => ?_) (by simp), by show 6 ≤ k; omega⟩
 ·rcases hk9 with rfl | rfl
  ·exact .while 0
  ·exact .until 0
 ·simp only [List.mem_cons, List.not_mem_nil, or_false] at hc
  rcases hc with rfl | rfl
  ·exact h2
  ·exact h1
theorem each_sh {lst : Pz → Cm × Pz} {N : Nat} (hw : SR lst) (h : Sr N lst) {s : Pz} (hN : s.take.toks.length < N) (hq : Iq s.toks) (h0 : (Pz.each lst s).2.we = 0) : ShC (Pz.each lst s).1 ∧ 6 ≤ (Pz.each lst s).1.kind := by
 have k1 : Kp s.take ((s.take.name.2.skips semi).gap) := ((kp_name _).trans (kp_skips _ _)).trans (kp_gap _)
 have w1 : Sw s.take ((s.take.name.2.skips semi).gap) := ((sw_name _).trans (sw_skips _ _)).trans (sw_gap _)
 have wn : Sw s.take.name.2 ((s.take.name.2.skips semi).gap) := (sw_skips _ _).trans (sw_gap _)
 unfold Pz.each at h0 ⊢
 simp only at h0 ⊢
 split at h0
 ·next hs =>
  rw [if_pos hs]
  obtain ⟨s1, hs1⟩ : ∃ s1, s1 = (s.take.name.2.skips semi).gap := ⟨_, rfl⟩
  rw [← hs1] at h0 k1 w1 wn ⊢
  have k2 : Kp s1 (if s1.take.words.2.ends = true then s1.take.words.2.endS else s1.take.words.2.misfit) := by
   refine ((kp_take s1).trans (kp_words _)).trans ?_
   split
   ·exact kp_endS _
   ·exact kp_misfit _
  have w2 : Sw s1 (if s1.take.words.2.ends = true then s1.take.words.2.endS else s1.take.words.2.misfit) := by
   refine ((sw_take s1).trans (sw_words _)).trans ?_
   split
   ·exact sw_endS _
   ·exact sw_misfit _
  have h1 := doGroup_sh h (Nat.lt_of_le_of_lt (k1.trans k2).1 hN) ((w1.trans w2).1 hq.tail) h0
  have hm := name_sh (wn.2 (w2.2 ((sr_doGroup hw _).2 h0)))
  exact ⟨.mk _ _ _ _ _ _ _ _ _ (.for _ 0 _ false (fun e => by cases e) hm) ⟨Nat.zero_le _, by simp, Nat.zero_le _⟩ (fun _ h => by cases h) (fun c hc => by rw [List.mem_singleton.1 hc]; exact h1) (fun _ h => by cases h) (fun _ h => by cases h), by show (6 : Int) ≤ 11; decide⟩
 ·next hs =>
  rw [if_neg hs]
  have h1 := doGroup_sh h (Nat.lt_of_le_of_lt k1.1 hN) (w1.1 hq.tail) h0
  have hm := name_sh (wn.2 ((sr_doGroup hw _).2 h0))
  exact ⟨.mk _ _ _ _ _ _ _ _ _ (.for 0 0 _ true (fun _ => rfl) hm) ⟨Nat.zero_le _, by simp, Nat.zero_le _⟩ (fun _ h => by cases h) (fun c hc => by rw [List.mem_singleton.1 hc]; exact h1) (fun _ h => by cases h) (fun _ h => by cases h), by show (6 : Int) ≤ 11; decide⟩
theorem item_sh {lst : Pz → Cm × Pz} {N : Nat} (h : Sr N lst) {s : Pz} (hN : s.toks.length < N) (hq : Iq s.toks) (h0 : (Pz.item lst s).2.we = 0) : (Pz.item lst s).1.1 ≠ [] ∧ (Pz.item lst s).1.2.length ≤ 1 ∧ ∀ c ∈ (Pz.item lst s).1.2, ShC c := by
 have k1 : Kp s (itS s) := ((((kp_skips s _).trans (kp_word _)).trans (kp_altsN _ _)).trans (kp_want _ _)).trans (kp_gap _)
 have w1 : Sw s (itS s) := ((((sw_skips s _).trans (sw_word _)).trans (sw_altsN _ _)).trans (sw_want _ _)).trans (sw_gap _)
 have e : Pz.item lst s = if (itS s).sees [kDsemi, kEsac] then (((s.skips kLp).word.1 :: (altsN (s.skips kLp).word.2.toks.length (s.skips kLp).word.2).1, []), itS s) else (((s.skips kLp).word.1 :: (altsN (s.skips kLp).word.2.toks.length (s.skips kLp).word.2).1, [(lst (itS s)).1]), (lst (itS s)).2) := by
  unfold Pz.item itS
  simp only
 rw [e] at h0 ⊢
 split at h0
 ·next hs =>
  rw [if_pos hs]
  exact ⟨by simp, by simp, fun c hc => by cases hc⟩
 ·next hs =>
  rw [if_neg hs]
  have h1 := rs_step h k1 w1 hN hq h0
  exact ⟨by simp, by simp, fun c hc => by rw [List.mem_singleton.1 hc]; exact h1⟩
theorem itemsN_len {lst : Pz → Cm × Pz} : ∀ (n : Nat) (s : Pz), (Pz.itemsN lst n s).1.length ≤ n
 | 0, s => Nat.le_refl _
 | n + 1, s => by
   rw [itemsN_succ]
   split
   ·exact Nat.zero_le _
   ·split
    ·exact Nat.succ_le_succ (itemsN_len n _)
    ·exact Nat.succ_le_succ (Nat.zero_le _)
theorem itemsN_sh {lst : Pz → Cm × Pz} {N : Nat} (hB : N ≤ 4990) (hk : KR lst) (hw : SR lst) (h : Sr N lst) : ∀ (n : Nat) {s : Pz}, s.toks.length < N → Iq s.toks → (Pz.itemsN lst n s).2.we = 0 → ∀ x ∈ (Pz.itemsN lst n s).1, x.1 ≠ [] ∧ x.2.length ≤ 1 ∧ ∀ c ∈ x.2, ShC c
 | 0, s, _, _, _ => fun x hx => by cases hx
 | n + 1, s, hN, hq, h0 => by
   rw [itemsN_succ] at h0 ⊢
   split at h0
   ·next hs =>
    rw [if_pos hs]
    intro x hx
    cases hx
   ·next hs =>
    rw [if_neg hs]
    split at h0
    ·next hd =>
     rw [if_pos hd]
     have k1 : Kp s (Pz.item lst s).2.take.gap := ((kp_item hk s).trans (kp_take _)).trans (kp_gap _)
     have w1 : Sw s (Pz.item lst s).2.take.gap := ((sw_item hw s).trans (sw_take _)).trans (sw_gap _)
     have e1 := (sw_take _).2 ((sw_gap _).2 ((sw_itemsN hw n _).2 h0))
     intro x hx
     rcases List.mem_cons.1 hx with rfl | hx
     ·exact item_sh h hN hq e1
     ·exact itemsN_sh hB hk hw h n (Nat.lt_of_le_of_lt k1.1 hN) (w1.1 hq) h0 x hx
    ·next hd =>
     rw [if_neg hd]
     intro x hx
     rw [List.mem_singleton.1 hx]
     exact item_sh h hN hq h0
theorem choice_sh {lst : Pz → Cm × Pz} {N : Nat} (hB : N ≤ 4990) (hk : KR lst) (hw : SR lst) (h : Sr N lst) {s : Pz} (hN : s.take.toks.length < N) (hq : Iq s.toks) (h0 : (Pz.choice lst s).2.we = 0) : ShC (Pz.choice lst s).1 ∧ 6 ≤ (Pz.choice lst s).1.kind := by
 have k1 : Kp s.take ((s.take.word.2.gap.want kIn).gap) := (((kp_word _).trans (kp_gap _)).trans (kp_want _ _)).trans (kp_gap _)
 have w1 : Sw s.take ((s.take.word.2.gap.want kIn).gap) := (((sw_word _).trans (sw_gap _)).trans (sw_want _ _)).trans (sw_gap _)
 have h1 := itemsN_sh hB hk hw h (((s.take.word.2.gap.want kIn).gap).toks.length + 1) (Nat.lt_of_le_of_lt k1.1 hN) (w1.1 hq.tail) ((sw_want _ _).2 h0)
 exact ⟨.mk _ _ _ _ _ _ _ _ _ (.case 0 _) ⟨Nat.zero_le _, Nat.zero_le _, Nat.le_trans (itemsN_len _ _) (by have := k1.1; omega)⟩ (fun _ h => by cases h) (fun _ h => by cases h) (fun x hx => ⟨(h1 x hx).1, (h1 x hx).2.1⟩) (fun x hx => (h1 x hx).2.2), by show (6 : Int) ≤ 12; decide⟩
/-- What begins with a text reads so. -/
theorem begin_sh {lst : Pz → Cm × Pz} {N : Nat} (hB : N ≤ 4990) (hk : KR lst) (hw : SR lst) (h : Sr N lst) {t : ByteArray} {r : Pz → Cm × Pz} (hr : Pz.beginOf lst t = some r) {s : Pz} (hne : s.toks ≠ []) (hN : s.toks.length ≤ N) (hq : Iq s.toks) (h0 : (r s).2.we = 0) : ShC (r s).1 ∧ 6 ≤ (r s).1.kind := by
 have hlt := take_lt hne
 unfold Pz.beginOf at hr
 split at hr
 ·injection hr with hr; subst hr; exact enclosed_sh h (.inr rfl) _ (by omega) hq h0
 ·split at hr
  ·injection hr with hr; subst hr; exact enclosed_sh h (.inl rfl) _ (by omega) hq h0
  ·split at hr
   ·injection hr with hr; subst hr; exact branchesN_sh hB hk hw h _ (Nat.le_refl _) hne hN hq h0
   ·split at hr
    ·injection hr with hr; subst hr; exact loop_sh hk hw h (.inl rfl) (by omega) hq h0
    ·split at hr
     ·injection hr with hr; subst hr; exact loop_sh hk hw h (.inr rfl) (by omega) hq h0
     ·split at hr
      ·injection hr with hr; subst hr; exact each_sh hw h (by omega) hq h0
      ·split at hr
       ·injection hr with hr; subst hr; exact choice_sh hB hk hw h (by omega) hq h0
       ·cases hr
theorem beginOf_toks {lst : Pz → Cm × Pz} {r : Pz → Cm × Pz} {s : Pz} (hr : Pz.beginOf lst s.next.text = some r) : s.toks ≠ [] := fun e => by
 rw [next_nil e] at hr
 revert hr
 unfold Pz.beginOf
 rw [if_neg (by decide), if_neg (by decide), if_neg (by decide), if_neg (by decide), if_neg (by decide), if_neg (by decide), if_neg (by decide)]
 intro hr
 cases hr
theorem within_we {r : Pz → Cm × Pz} {s : Pz} (h0 : (Pz.within r s).2.we = 0) : (r { s with deep := s.deep + 1 }).2.we = 0 ∧ (Pz.within r s).1 = (r { s with deep := s.deep + 1 }).1 := by
 unfold Pz.within at h0 ⊢
 split at h0
 ·exact absurd h0 (fail_we _ _ (by decide))
 ·next hd =>
  rw [if_neg hd]
  exact ⟨h0, rfl⟩
theorem compound_sh {lst : Pz → Cm × Pz} {N : Nat} (hB : N ≤ 4990) (hk : KR lst) (hw : SR lst) (h : Sr N lst) {s : Pz} (hN : s.toks.length ≤ N) (hq : Iq s.toks) (h0 : (Pz.compound lst s).2.we = 0) : ShC (Pz.compound lst s).1 ∧ 6 ≤ (Pz.compound lst s).1.kind := by
 unfold Pz.compound at h0 ⊢
 split at h0
 ·exact absurd h0 (misfit_we s)
 ·next r hr =>
  have h1 := (sw_redirs _).2 h0
  obtain ⟨h2, h3⟩ := within_we h1
  have h4 := begin_sh hB hk hw h hr (s := { s with deep := s.deep + 1 }) (beginOf_toks hr) hN hq h2
  have h5 := redirsN_sh _ ((sr_within (sr_begin hw hr) s).1 hq) h0
  simp only
  rw [h3]
  exact ⟨h4.1.set h4.2 _ h5 (Nat.le_trans (redirsN_len _ _) (by have := (kr_within (kr_begin hk hr) s).1; omega)), by rw [kind_set]; exact h4.2⟩
theorem function_sh {lst : Pz → Cm × Pz} {N : Nat} (hB : N ≤ 4990) (hk : KR lst) (hw : SR lst) (h : Sr N lst) {s : Pz} (hN : s.toks.length ≤ N) (hq : Iq s.toks) (h0 : (Pz.function lst s).2.we = 0) : ShC (Pz.function lst s).1 := by
 have k1 : Kp s (((s.name.2.want kLp).want kRp).gap) := (((kp_name s).trans (kp_want _ _)).trans (kp_want _ _)).trans (kp_gap _)
 have w1 : Sw s.name.2 (((s.name.2.want kLp).want kRp).gap) := ((sw_want _ _).trans (sw_want _ _)).trans (sw_gap _)
 have h1 := compound_sh hB hk hw h (Nat.le_trans k1.1 hN) (((sw_name s).trans w1).1 hq) h0
 have hm := name_sh (w1.2 ((sr_compound hw _).2 h0))
 exact .mk _ _ _ _ _ _ _ _ _ (.func _ _ hm) ⟨h1.1.redirs.2, by simp, Nat.zero_le _⟩ h1.1.redirs.1 (fun c hc => by rw [List.mem_singleton.1 hc]; exact h1.1.set h1.2 [] (fun _ h => by cases h) (Nat.zero_le _)) (fun _ h => by cases h) (fun _ h => by cases h)
theorem command_sh {lst : Pz → Cm × Pz} {N : Nat} (hB : N ≤ 4990) (hk : KR lst) (hw : SR lst) (h : Sr N lst) {s : Pz} (hN : s.toks.length ≤ N) (hq : Iq s.toks) (h0 : (Pz.command lst s).2.we = 0) : ShC (Pz.command lst s).1 := by
 unfold Pz.command at h0 ⊢
 split at h0
 ·next hb => rw [if_pos hb]; exact (compound_sh hB hk hw h hN hq h0).1
 ·next hb =>
  rw [if_neg hb]
  split at h0
  ·exact absurd h0 (misfit_we s)
  ·next hr =>
   rw [if_neg hr]
   split at h0
   ·next hf =>
    rw [if_pos hf]
    obtain ⟨h2, h3⟩ := within_we h0
    rw [h3]
    exact function_sh hB hk hw h (s := { s with deep := s.deep + 1 }) hN hq h2
   ·next hf =>
    rw [if_neg hf]
    exact simple_sh (Nat.le_trans hN hB) hq h0
theorem pipesN_len {lst : Pz → Cm × Pz} : ∀ (n : Nat) (s : Pz), (Pz.pipesN lst n s).1.length ≤ n
 | 0, s => Nat.le_refl _
 | n + 1, s => by
   unfold Pz.pipesN
   split
   ·exact Nat.succ_le_succ (pipesN_len n _)
   ·exact Nat.zero_le _
theorem pipesN_sh {lst : Pz → Cm × Pz} {N : Nat} (hB : N ≤ 4990) (hk : KR lst) (hw : SR lst) (h : Sr N lst) : ∀ (n : Nat) {s : Pz}, s.toks.length ≤ N → Iq s.toks → (Pz.pipesN lst n s).2.we = 0 → ∀ c ∈ (Pz.pipesN lst n s).1, ShC c
 | 0, s, _, _, _ => fun c hc => by cases hc
 | n + 1, s, hN, hq, h0 => by
   unfold Pz.pipesN at h0 ⊢
   split at h0
   ·next hs =>
    rw [if_pos hs]
    have k1 : Kp s s.take.gap := (kp_take s).trans (kp_gap _)
    have w1 : Sw s s.take.gap := (sw_take s).trans (sw_gap _)
    have k2 := k1.trans (kr_command hk _)
    have w2 := w1.trans (sr_command hw _)
    have e1 := (sw_pipesN hw n _).2 h0
    intro c hc
    rcases List.mem_cons.1 hc with rfl | hc
    ·exact command_sh hB hk hw h (Nat.le_trans k1.1 hN) (w1.1 hq) e1
    ·exact pipesN_sh hB hk hw h n (Nat.le_trans k2.1 hN) (w2.1 hq) h0 c hc
   ·next hs =>
    rw [if_neg hs]
    intro c hc
    cases hc
theorem pipeline_sh {lst : Pz → Cm × Pz} {N : Nat} (hB : N ≤ 4990) (hk : KR lst) (hw : SR lst) (h : Sr N lst) {s : Pz} (hN : s.toks.length ≤ N) (hq : Iq s.toks) (h0 : (Pz.pipeline lst s).2.we = 0) : ShC (Pz.pipeline lst s).1 := by
 have k1 := (kp_skips s kNot).trans (kr_command hk _)
 have w1 := (sw_skips s kNot).trans (sr_command hw _)
 have h1 := command_sh hB hk hw h (Nat.le_trans (kp_skips s kNot).1 hN) ((sw_skips s kNot).1 hq) ((sw_pipesN hw _ _).2 h0)
 have h2 := pipesN_sh hB hk hw h _ (Nat.le_trans k1.1 hN) (w1.1 hq) h0
 unfold Pz.pipeline
 simp only
 split
 ·exact h1
 ·next hx =>
  refine .few (.pipe _ _ ?_) (fun c hc => ?_) (Nat.le_trans (Nat.succ_le_succ (pipesN_len _ _)) (by have := k1.1; omega))
  ·cases hq : (Pz.pipesN lst ((s.skips kNot).command lst).2.toks.length ((s.skips kNot).command lst).2).1 with
   | nil =>
     right
     rw [hq] at hx
     cases hn : s.sees [kNot] with
     | true => exact ⟨rfl, rfl⟩
     | false => rw [hn] at hx; exact absurd rfl hx
   | cons x y => left; simp
  ·rcases List.mem_cons.1 hc with rfl | hc
   ·exact h1
   ·exact h2 c hc
theorem andOrN_sh {lst : Pz → Cm × Pz} {N : Nat} (hB : N ≤ 4990) (hk : KR lst) (hw : SR lst) (h : Sr N lst) : ∀ (n : Nat) {c : Cm} {s : Pz}, s.toks.length ≤ N → Iq s.toks → ShC c ∨ s.we ≠ 0 → (Pz.andOrN lst n c s).2.we = 0 → ShC (Pz.andOrN lst n c s).1
 | 0, c, s, _, _, hc, h0 => hc.resolve_right (fun e => e h0)
 | n + 1, c, s, hN, hq, hc, h0 => by
   rw [andOrN_succ] at h0 ⊢
   split at h0
   ·next hs =>
    rw [if_pos hs]
    have k1 : Kp s s.take.gap := (kp_take s).trans (kp_gap _)
    have w1 : Sw s s.take.gap := (sw_take s).trans (sw_gap _)
    have k2 := k1.trans (kr_pipeline hk _)
    have w2 := w1.trans (sr_pipeline hw _)
    have e1 := (sw_andOrN hw n _ _).2 h0
    have h1 := pipeline_sh hB hk hw h (Nat.le_trans k1.1 hN) (w1.1 hq) e1
    have h2 := hc.resolve_right (fun e => e (w2.2 e1))
    refine andOrN_sh hB hk hw h n (Nat.le_trans k2.1 hN) (w2.1 hq) (.inl ?_) h0
    have hb : ∀ x ∈ [c, (s.take.gap.pipeline lst).1], ShC x := fun x hx => by
     simp only [List.mem_cons, List.not_mem_nil, or_false] at hx
     rcases hx with rfl | rfl
     ·exact h2
     ·exact h1
    split
    ·exact .few .and hb (by simp)
    ·exact .few .or hb (by simp)
   ·next hs =>
    rw [if_neg hs] 
    exact hc.resolve_right (fun e => e h0)
theorem andOr_sh {lst : Pz → Cm × Pz} {N : Nat} (hB : N ≤ 4990) (hk : KR lst) (hw : SR lst) (h : Sr N lst) {s : Pz} (hN : s.toks.length ≤ N) (hq : Iq s.toks) (h0 : (Pz.andOr lst s).2.we = 0) : ShC (Pz.andOr lst s).1 := andOrN_sh hB hk hw h _ (Nat.le_trans (kr_pipeline hk s).1 hN) ((sr_pipeline hw s).1 hq) (by
 by_cases e : (s.pipeline lst).2.we = 0
 ·exact .inl (pipeline_sh hB hk hw h hN hq e)
 ·exact .inr e) h0
theorem moreN_len {lst : Pz → Cm × Pz} : ∀ (n : Nat) (s : Pz), (Pz.moreN lst n s).1.length ≤ n
 | 0, s => Nat.le_refl _
 | n + 1, s => by
   rw [moreN_succ]
   split
   ·split
    ·exact Nat.succ_le_succ (moreN_len n _)
    ·exact Nat.zero_le _
   ·exact Nat.zero_le _
theorem moreN_sh {lst : Pz → Cm × Pz} {N : Nat} (hB : N ≤ 4990) (hk : KR lst) (hw : SR lst) (h : Sr N lst) : ∀ (n : Nat) {s : Pz}, s.toks.length ≤ N → Iq s.toks → (Pz.moreN lst n s).2.we = 0 → ∀ c ∈ (Pz.moreN lst n s).1, ShC c
 | 0, s, _, _, _ => fun c hc => by cases hc
 | n + 1, s, hN, hq, h0 => by
   rw [moreN_succ] at h0 ⊢
   split at h0
   ·next hs =>
    rw [if_pos hs]
    split at h0
    ·next hg =>
     rw [if_pos hg]
     have k2 := (kp_endS s).trans (kr_andOr hk _)
     have w2 := (sw_endS s).trans (sr_andOr hw _)
     have e1 := (sw_moreN hw n _).2 h0
     intro c hc
     rcases List.mem_cons.1 hc with rfl | hc
     ·exact andOr_sh hB hk hw h (Nat.le_trans (kp_endS s).1 hN) ((sw_endS s).1 hq) e1
     ·exact moreN_sh hB hk hw h n (Nat.le_trans k2.1 hN) (w2.1 hq) h0 c hc
    ·next hg =>
     rw [if_neg hg]
     intro c hc
     cases hc
   ·next hs =>
    rw [if_neg hs]
    intro c hc
    cases hc
theorem listG_sh {lst : Pz → Cm × Pz} {N : Nat} (hB : N ≤ 4990) (hk : KR lst) (hw : SR lst) (h : Sr N lst) {s : Pz} (hN : s.toks.length ≤ N) (hq : Iq s.toks) (h0 : (Pz.listG lst s).2.we = 0) : ShC (Pz.listG lst s).1 := by
 have k1 := (kp_gap s).trans (kr_andOr hk _)
 have w1 := (sw_gap s).trans (sr_andOr hw _)
 have h1 := andOr_sh hB hk hw h (Nat.le_trans (kp_gap s).1 hN) ((sw_gap s).1 hq) ((sw_moreN hw _ _).2 h0)
 have h2 := moreN_sh hB hk hw h _ (Nat.le_trans k1.1 hN) (w1.1 hq) h0
 exact seqC_sh (by simp) (Nat.le_trans (Nat.succ_le_succ (moreN_len _ _)) (by have := k1.1; omega)) (fun c hc => by
  rcases List.mem_cons.1 hc with rfl | hc
  ·exact h1
  ·exact h2 c hc)
theorem lineN_len {lst : Pz → Cm × Pz} : ∀ (n : Nat) (s : Pz), (Pz.lineN lst n s).1.length ≤ n
 | 0, s => Nat.le_refl _
 | n + 1, s => by
   rw [lineN_succ]
   split
   ·split
    ·exact Nat.succ_le_succ (lineN_len n _)
    ·exact Nat.zero_le _
   ·exact Nat.zero_le _
theorem lineN_sh {lst : Pz → Cm × Pz} {N : Nat} (hB : N ≤ 4990) (hk : KR lst) (hw : SR lst) (h : Sr N lst) : ∀ (n : Nat) {s : Pz}, s.toks.length ≤ N → Iq s.toks → (Pz.lineN lst n s).2.we = 0 → ∀ c ∈ (Pz.lineN lst n s).1, ShC c
 | 0, s, _, _, _ => fun c hc => by cases hc
 | n + 1, s, hN, hq, h0 => by
   rw [lineN_succ] at h0 ⊢
   split at h0
   ·next hs =>
    rw [if_pos hs]
    split at h0
    ·next hg =>
     rw [if_pos hg]
     have k2 := (kp_take s).trans (kr_andOr hk _)
     have w2 := (sw_take s).trans (sr_andOr hw _)
     have e1 := (sw_lineN hw n _).2 h0
     intro c hc
     rcases List.mem_cons.1 hc with rfl | hc
     ·exact andOr_sh hB hk hw h (Nat.le_trans (kp_take s).1 hN) ((sw_take s).1 hq) e1
     ·exact lineN_sh hB hk hw h n (Nat.le_trans k2.1 hN) (w2.1 hq) h0 c hc
    ·next hg =>
     rw [if_neg hg]
     intro c hc
     cases hc
   ·next hs =>
    rw [if_neg hs]
    intro c hc
    cases hc
theorem line_sh {lst : Pz → Cm × Pz} {N : Nat} (hB : N ≤ 4990) (hk : KR lst) (hw : SR lst) (h : Sr N lst) {s : Pz} (hN : s.toks.length ≤ N) (hq : Iq s.toks) (h0 : (Pz.line lst s).2.we = 0) : ShC (Pz.line lst s).1 := by
 have e1 := (sw_lineEnd _).2 h0
 have h1 := andOr_sh hB hk hw h hN hq ((sw_lineN hw _ _).2 e1)
 have h2 := lineN_sh hB hk hw h _ (Nat.le_trans (kr_andOr hk s).1 hN) ((sr_andOr hw s).1 hq) e1
 exact seqC_sh (by simp) (Nat.le_trans (Nat.succ_le_succ (lineN_len _ _)) (by have := (kr_andOr hk s).1; omega)) (fun c hc => by
  rcases List.mem_cons.1 hc with rfl | hc
  ·exact h1
  ·exact h2 c hc)
theorem linesN_sh {lst : Pz → Cm × Pz} {N : Nat} (hB : N ≤ 4990) (hk : KR lst) (hw : SR lst) (h : Sr N lst) : ∀ (n : Nat) {s : Pz}, s.toks.length ≤ N → Iq s.toks → ∀ c ∈ (Pz.linesN lst n s).1, ShC c
 | 0, s, _, _ => fun c hc => by cases hc
 | n + 1, s, hN, hq => by
   unfold Pz.linesN
   split
   ·have k1 := (kr_line hk s).trans (kp_gap _)
    have w1 := (sr_line hw s).trans (sw_gap _)
    intro c hc
    rcases List.mem_append.1 hc with hc | hc
    ·split at hc
     ·next h0 =>
      rw [List.mem_singleton.1 hc]
      exact line_sh hB hk hw h hN hq h0
     ·cases hc
    ·exact linesN_sh hB hk hw h n (Nat.le_trans k1.1 hN) (w1.1 hq) c hc
   ·intro c hc
    cases hc
theorem list_sh : ∀ n, n ≤ 4990 → Sr n (Pz.list n)
 | 0, _ => fun s h => absurd h (Nat.not_lt_zero _)
 | n + 1, hn => fun s hN hq h0 => listG_sh (by omega) (kr_list n) (sr_list n) (list_sh n (by omega)) (by omega) hq h0
theorem linesN_len {lst : Pz → Cm × Pz} : ∀ (n : Nat) (s : Pz), (Pz.linesN lst n s).1.length ≤ n
 | 0, s => Nat.le_refl _
 | n + 1, s => by
   unfold Pz.linesN
   split
   ·rw [List.length_append]
    have := linesN_len (lst := lst) n ((Pz.line lst s).2.gap)
    split
    ·rw [List.length_singleton]; omega
    ·rw [List.length_nil]; omega
   ·exact Nat.zero_le _
/-- What Parse answers has the parts of its kinds. -/
theorem prsL_sh (l : List UInt8) (hl : (lexL l).1.length ≤ 4096) (hq : Iq (lexL l).1) : (∀ c ∈ (prsL l).1, ShC c) ∧ (prsL l).1.length ≤ 5000 :=
 ⟨linesN_sh (by omega) (kr_list _) (sr_list _) (list_sh _ (by omega)) _ (Nat.le_trans (kp_gap _).1 (by show (lexL l).1.length ≤ _; omega)) ((sw_gap _).1 hq), Nat.le_trans (linesN_len _ _) (by omega)⟩

end Go.Proofs.YtnamineofpeahaaGreatDoor

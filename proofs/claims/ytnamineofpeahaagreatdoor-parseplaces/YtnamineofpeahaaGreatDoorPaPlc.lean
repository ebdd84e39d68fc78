/-
  The parser, without memory: what is wrong is wrong within the text, or at its end; without an error no place is told.
-/
import Derived.Test.YtnamineofpeahaaGreatDoorM30
import Derived.Test.YtnamineofpeahaaGreatDoorPaErr
namespace Go.Proofs.YtnamineofpeahaaGreatDoor

/-- An error and its place: none, or one of the four within n. -/
def Er (z e p : Int) : Prop := (e = 0 ∧ p = 0) ∨ (Ee e ∧ 0 ≤ p ∧ p ≤ z)
structure Pw (z : Int) (s : Pz) : Prop where
 pos : ∀ t ∈ s.toks, 0 ≤ t.pos ∧ t.pos ≤ z
 le : 0 ≤ z
 size : s.size = z
 b : Er z s.be s.bp
 w : Er z s.we s.wp
def Pl (z : Int) (s s' : Pz) : Prop := Pw z s → Pw z s'
theorem Pl.refl {z : Int} (s : Pz) : Pl z s s := id
theorem Pl.trans {z : Int} {s t u : Pz} (h : Pl z s t) (h2 : Pl z t u) : Pl z s u := fun k => h2 (h k)
theorem Pw.next {z : Int} {s : Pz} (h : Pw z s) : 0 ≤ s.next.pos ∧ s.next.pos ≤ z := by
 unfold Pz.next
 cases ht : s.toks with
 | nil => exact ⟨Int.le_refl 0, h.le⟩
 | cons t r => exact h.pos t (by rw [ht]; simp)
namespace Pz
variable {z : Int}
theorem pw_fail {s : Pz} (h : Pw z s) {e p : Int} (he : Er z e p) : Pw z (s.fail e p) := by
 unfold fail
 split
 ·exact ⟨fun t ht => by simp at ht, h.le, h.size, h.b, he⟩
 ·exact h
theorem pl_take (s : Pz) : Pl z s s.take := fun h => ⟨fun t ht => h.pos t (List.mem_of_mem_tail ht), h.le, h.size, h.b, h.w⟩
theorem pl_misfit (s : Pz) : Pl z s s.misfit := fun h => by
 unfold misfit
 split
 ·exact pw_fail h (.inr ⟨.inl rfl, h.next⟩)
 ·split
  ·exact pw_fail h h.b
  ·exact pw_fail h (.inr ⟨.inl rfl, by rw [h.size]; exact h.le, by rw [h.size]; exact Int.le_refl _⟩)
theorem pl_want (s : Pz) (t : ByteArray) : Pl z s (s.want t) := by
 unfold want
 split
 ·exact pl_take s
 ·exact pl_misfit s
theorem pl_skips (s : Pz) (t : ByteArray) : Pl z s (s.skips t) := by
 unfold skips
 split
 ·exact pl_take s
 ·exact .refl s
theorem pl_gapN : ∀ (n : Nat) (s : Pz), Pl z s (gapN n s)
 | 0, s => .refl s
 | n + 1, s => by
   unfold gapN
   split
   ·exact (pl_take s).trans (pl_gapN n _)
   ·exact .refl s
theorem pl_gap (s : Pz) : Pl z s s.gap := pl_gapN _ s
theorem pl_endS (s : Pz) : Pl z s s.endS := by
 unfold endS
 split
 ·exact (pl_take s).trans (pl_gap _)
 ·exact .refl s
theorem pl_parts (s : Pz) (k : Nat) (t : ByteArray) {p : Int} (hp : 0 ≤ p ∧ p ≤ z) : Pl z s (s.parts k t p).2 := fun h => by
 unfold parts
 simp only
 split
 ·exact h
 ·next hne => exact pw_fail h (.inr ⟨(wrdL_ee _ _ _).resolve_left hne, hp⟩)
theorem pl_wantWord (s : Pz) : Pl z s s.wantWord.2 := by
 unfold wantWord
 simp only
 split
 ·exact pl_take s
 ·exact (pl_misfit s).trans (pl_take _)
theorem wantWord_pos {s : Pz} (h : Pw z s) : 0 ≤ s.wantWord.1.pos ∧ s.wantWord.1.pos ≤ z := by
 unfold wantWord
 simp only
 split
 ·exact h.next
 ·exact (pl_misfit s h).next
theorem pl_word (s : Pz) : Pl z s s.word.2 := fun h => pl_parts _ _ _ (wantWord_pos h) (pl_wantWord s h)
theorem numN_ee (t : List UInt8) : (numN t).2 = 0 ∨ Ee (numN t).2 := by
 have hd : ∀ (t : List UInt8) (n : Int), (digN n t).2 = 0 ∨ Ee (digN n t).2 := by
  intro t
  induction t with
  | nil => intro n; exact .inl rfl
  | cons c r ih =>
    intro n
    rw [digN]
    split
    ·exact .inr (.inr (.inl rfl))
    ·exact ih _
 unfold numN
 split
 ·exact .inr (.inl rfl)
 ·exact hd _ _
theorem pl_number (s : Pz) : Pl z s s.number.2 := fun h => by
 unfold number
 simp only
 split
 ·exact pl_take s h
 ·next hne => exact pw_fail (pl_take s h) (.inr ⟨(numN_ee _).resolve_left hne, h.next⟩)
theorem pl_inPlace (s : Pz) (o : Tok) (ho : 0 ≤ o.pos ∧ o.pos ≤ z) : Pl z s (s.inPlace o).2 := by
 unfold inPlace
 simp only
 split
 ·exact pl_wantWord s
 ·exact (pl_wantWord s).trans (pl_parts _ _ _ ho)
theorem pl_redir (s : Pz) : Pl z s s.redir.2 := by
 have hk : ∀ s1 : Pz, Pl z s s1 → Pl z s (if (redirOf s1.next.text).2 = 6 then s1.take.inPlace s1.next else s1.take.word).2 := fun s1 h1 h => by
  split
  ·exact pl_inPlace _ _ (h1 h).next (pl_take s1 (h1 h))
  ·exact pl_word _ (pl_take s1 (h1 h))
 unfold redir
 simp only
 split
 ·exact hk s.number.2 (pl_number s)
 ·exact hk s (.refl s)
theorem pl_redirsN : ∀ (n : Nat) (s : Pz), Pl z s (redirsN n s).2
 | 0, s => .refl s
 | n + 1, s => by
   unfold redirsN
   split
   ·exact (pl_redir s).trans (pl_redirsN n _)
   ·exact .refl s
theorem pl_redirs (s : Pz) : Pl z s s.redirs.2 := pl_redirsN _ s
theorem pl_wordsN : ∀ (n : Nat) (s : Pz), Pl z s (wordsN n s).2
 | 0, s => .refl s
 | n + 1, s => by
   unfold wordsN
   split
   ·exact (pl_word s).trans (pl_wordsN n _)
   ·exact .refl s
theorem pl_words (s : Pz) : Pl z s s.words.2 := pl_wordsN _ s
theorem pl_lets (s : Pz) : Pl z s s.lets.2 := fun h => pl_parts _ _ _ h.next (pl_take s h)
theorem pl_simpleN : ∀ (n : Nat) (c : Smp) (s : Pz), Pl z s (simpleN n c s).2
 | 0, c, s => .refl s
 | n + 1, c, s => by
   unfold simpleN
   split
   ·exact (pl_redir s).trans (pl_simpleN n _ _)
   ·split
    ·exact (pl_lets s).trans (pl_simpleN n _ _)
    ·split
     ·exact (pl_word s).trans (pl_simpleN n _ _)
     ·exact .refl s
theorem pl_simple (s : Pz) : Pl z s s.simple.2 := by
 unfold simple
 split
 ·exact pl_simpleN _ _ _
 ·exact pl_misfit s
theorem pl_name (s : Pz) : Pl z s s.name.2 := by
 unfold name
 simp only
 split
 ·exact pl_take s
 ·exact (pl_misfit s).trans (pl_take _)
theorem pl_altsN : ∀ (n : Nat) (s : Pz), Pl z s (altsN n s).2
 | 0, s => .refl s
 | n + 1, s => by
   unfold altsN
   split
   ·exact ((pl_take s).trans (pl_word _)).trans (pl_altsN n _)
   ·exact .refl s
end Pz
open Pz
variable {z : Int}
theorem pl_lineEnd (s : Pz) : Pl z s s.lineEnd := fun h => by
 unfold Pz.lineEnd
 split
 ·exact Pz.pl_want _ _ h
 ·exact Pz.pw_fail h h.b
/-- A reader keeps to it. -/
def PR (z : Int) (r : Pz → Cm × Pz) : Prop := ∀ s, Pl z s (r s).2
theorem pr_enclosed {lst : Pz → Cm × Pz} (h : PR z lst) (k : Int) (c : ByteArray) : PR z (Pz.enclosed lst k c) := fun s => ((pl_take s).trans (h _)).trans (pl_want _ _)
theorem pr_branchesN {lst : Pz → Cm × Pz} (h : PR z lst) : ∀ n, PR z (Pz.branchesN lst n)
 | 0 => fun s => .refl s
 | n + 1 => fun s => by
   have h1 : Pl z s (lst ((lst s.take).2.want kThen)).2 := (((pl_take s).trans (h _)).trans (pl_want _ _)).trans (h _)
   unfold Pz.branchesN
   simp only
   split
   ·exact h1.trans (pr_branchesN h n _)
   ·split
    ·exact ((h1.trans (pl_take _)).trans (h _)).trans (pl_want _ _)
    ·exact h1.trans (pl_want _ _)
theorem pr_branches {lst : Pz → Cm × Pz} (h : PR z lst) : PR z (Pz.branches lst) := fun s => pr_branchesN h _ s
theorem pr_doGroup {lst : Pz → Cm × Pz} (h : PR z lst) : PR z (Pz.doGroup lst) := fun s => ((pl_want s _).trans (h _)).trans (pl_want _ _)
theorem pr_loop {lst : Pz → Cm × Pz} (h : PR z lst) (k : Int) : PR z (fun s => Pz.loop lst k s) := fun s => ((pl_take s).trans (h _)).trans (pr_doGroup h _)
theorem pr_each {lst : Pz → Cm × Pz} (h : PR z lst) : PR z (Pz.each lst) := fun s => by
 have h1 : Pl z s ((s.take.name.2.skips semi).gap) := (((pl_take s).trans (pl_name _)).trans (pl_skips _ _)).trans (pl_gap _)
 unfold Pz.each
 simp only
 split
 ·refine Pl.trans ?_ (pr_doGroup h _)
  have h2 := (h1.trans (pl_take _)).trans (pl_words _)
  split
  ·exact h2.trans (pl_endS _)
  ·exact h2.trans (pl_misfit _)
 ·exact h1.trans (pr_doGroup h _)
theorem pl_item {lst : Pz → Cm × Pz} (h : PR z lst) (s : Pz) : Pl z s (Pz.item lst s).2 := by
 have h1 : Pl z s (itS s) := ((((pl_skips s _).trans (pl_word _)).trans (pl_altsN _ _)).trans (pl_want _ _)).trans (pl_gap _)
 have : (Pz.item lst s).2 = if (itS s).sees [kDsemi, kEsac] then itS s else (lst (itS s)).2 := by
  unfold Pz.item itS
  simp only
  split <;> rfl
 rw [this]
 split
 ·exact h1
 ·exact h1.trans (h _)
theorem pl_itemsN {lst : Pz → Cm × Pz} (h : PR z lst) : ∀ (n : Nat) (s : Pz), Pl z s (Pz.itemsN lst n s).2
 | 0, s => .refl s
 | n + 1, s => by
   rw [itemsN_succ]
   split
   ·exact .refl s
   ·split
    ·exact (((pl_item h s).trans (pl_take _)).trans (pl_gap _)).trans (pl_itemsN h n _)
    ·exact pl_item h s
theorem pr_choice {lst : Pz → Cm × Pz} (h : PR z lst) : PR z (Pz.choice lst) := fun s => (((((pl_take s).trans (pl_word _)).trans (pl_gap _)).trans (pl_want _ _)).trans (pl_gap _)).trans ((pl_itemsN h _ _).trans (pl_want _ _))
theorem pr_begin {lst : Pz → Cm × Pz} (h : PR z lst) {t : ByteArray} {r : Pz → Cm × Pz} (hr : Pz.beginOf lst t = some r) : PR z r := by
 unfold Pz.beginOf at hr
 split at hr
 ·injection hr with hr; subst hr; exact pr_enclosed h _ _
 ·split at hr
  ·injection hr with hr; subst hr; exact pr_enclosed h _ _
  ·split at hr
   ·injection hr with hr; subst hr; exact pr_branches h
   ·split at hr
    ·injection hr with hr; subst hr; exact pr_loop h _
    ·split at hr
     ·injection hr with hr; subst hr; exact pr_loop h _
     ·split at hr
      ·injection hr with hr; subst hr; exact pr_each h
      ·split at hr
       ·injection hr with hr; subst hr; exact pr_choice h
       ·cases hr
theorem pr_within {r : Pz → Cm × Pz} (h : PR z r) : PR z (Pz.within r) := fun s hs => by
 unfold Pz.within
 split
 ·exact Pz.pw_fail hs (.inr ⟨.inr (.inl rfl), hs.next⟩)
 ·have h1 := h { s with deep := s.deep + 1 } ⟨hs.pos, hs.le, hs.size, hs.b, hs.w⟩
  exact ⟨h1.pos, h1.le, h1.size, h1.b, h1.w⟩
theorem pr_compound {lst : Pz → Cm × Pz} (h : PR z lst) : PR z (Pz.compound lst) := fun s => by
 unfold Pz.compound
 split
 ·exact pl_misfit s
 ·rename_i r hr
  exact (pr_within (pr_begin h hr) s).trans (pl_redirs _)
theorem pr_function {lst : Pz → Cm × Pz} (h : PR z lst) : PR z (Pz.function lst) := fun s => ((((pl_name s).trans (pl_want _ _)).trans (pl_want _ _)).trans (pl_gap _)).trans (pr_compound h _)
theorem pr_command {lst : Pz → Cm × Pz} (h : PR z lst) : PR z (Pz.command lst) := fun s => by
 unfold Pz.command
 split
 ·exact pr_compound h s
 ·split
  ·exact pl_misfit s
  ·split
   ·exact pr_within (pr_function h) s
   ·exact pl_simple s
theorem pl_pipesN {lst : Pz → Cm × Pz} (h : PR z lst) : ∀ (n : Nat) (s : Pz), Pl z s (Pz.pipesN lst n s).2
 | 0, s => .refl s
 | n + 1, s => by
   unfold Pz.pipesN
   split
   ·exact (((pl_take s).trans (pl_gap _)).trans (pr_command h _)).trans (pl_pipesN h n _)
   ·exact .refl s
theorem pr_pipeline {lst : Pz → Cm × Pz} (h : PR z lst) : PR z (Pz.pipeline lst) := fun s => ((pl_skips s _).trans (pr_command h _)).trans (pl_pipesN h _ _)
theorem pl_andOrN {lst : Pz → Cm × Pz} (h : PR z lst) : ∀ (n : Nat) (c : Cm) (s : Pz), Pl z s (Pz.andOrN lst n c s).2
 | 0, c, s => .refl s
 | n + 1, c, s => by
   rw [andOrN_succ]
   split
   ·exact (((pl_take s).trans (pl_gap _)).trans (pr_pipeline h _)).trans (pl_andOrN h n _ _)
   ·exact .refl s
theorem pr_andOr {lst : Pz → Cm × Pz} (h : PR z lst) : PR z (Pz.andOr lst) := fun s => (pr_pipeline h s).trans (pl_andOrN h _ _ _)
theorem pl_moreN {lst : Pz → Cm × Pz} (h : PR z lst) : ∀ (n : Nat) (s : Pz), Pl z s (Pz.moreN lst n s).2
 | 0, s => .refl s
 | n + 1, s => by
   rw [moreN_succ]
   split
   ·split
    ·exact ((pl_endS s).trans (pr_andOr h _)).trans (pl_moreN h n _)
    ·exact pl_endS s
   ·exact .refl s
theorem pr_listG {lst : Pz → Cm × Pz} (h : PR z lst) : PR z (Pz.listG lst) := fun s => ((pl_gap s).trans (pr_andOr h _)).trans (pl_moreN h _ _)
theorem pl_lineN {lst : Pz → Cm × Pz} (h : PR z lst) : ∀ (n : Nat) (s : Pz), Pl z s (Pz.lineN lst n s).2
 | 0, s => .refl s
 | n + 1, s => by
   rw [lineN_succ]
   split
   ·split
    ·exact ((pl_take s).trans (pr_andOr h _)).trans (pl_lineN h n _)
    ·exact pl_take s
   ·exact .refl s
theorem pr_list : ∀ n, PR z (Pz.list n)
 | 0 => fun s => .refl s
 | n + 1 => pr_listG (pr_list n)
theorem pr_line {lst : Pz → Cm × Pz} (h : PR z lst) : PR z (Pz.line lst) := fun s => ((pr_andOr h s).trans (pl_lineN h _ _)).trans (pl_lineEnd _)

theorem pl_linesN {lst : Pz → Cm × Pz} (h : PR z lst) : ∀ (n : Nat) (s : Pz), Pl z s (Pz.linesN lst n s).2
 | 0, s => .refl s
 | n + 1, s => by
   unfold Pz.linesN
   split
   ·exact ((pr_line h s).trans (pl_gap _)).trans (pl_linesN h n _)
   ·exact .refl s
/-- What is wrong with a script is wrong within it, or at its end. -/
theorem prsL_place (l : List UInt8) (hl : l.length ≤ 4096) : Er (l.length : Int) (prsL l).2.2 (prsL l).2.1 := by
 obtain ⟨h1, h2, h3⟩ := lexL_stands l hl
 have h0 : Pw (l.length : Int) ⟨(lexL l).1, 0, l.length, (lexL l).2.2, (lexL l).2.1, 0, 0⟩ := by
  refine ⟨fun t ht => ?_, Int.natCast_nonneg _, rfl, ?_, .inl ⟨rfl, rfl⟩⟩
  ·obtain ⟨i, hi, rfl⟩ := List.mem_iff_getElem.1 ht
   have := stands_pos _ _ i (((lexL l).1[i]).pos, ((lexL l).1[i]).text) h1 (by simp [pts, hi])
   exact ⟨this.1, Int.le_of_lt this.2⟩
  ·rcases lexL_ee l with h | h
   ·exact .inl ⟨h, h2 h⟩
   ·have := h3 (by rcases h with h | h | h | h <;> rw [h] <;> decide)
    exact .inr ⟨h, this.1, Int.le_of_lt this.2⟩
 have hx := pl_linesN (lst := Pz.list ((lexL l).1.length + 1)) (pr_list _) ((lexL l).1.length + 1) _ (pl_gap _ h0)
 exact (pl_lineEnd _ hx).w

end Go.Proofs.YtnamineofpeahaaGreatDoor

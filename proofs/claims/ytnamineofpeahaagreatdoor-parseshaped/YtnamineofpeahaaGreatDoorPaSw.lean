/-
  The parser, without memory: what is wrong stays wrong; behind an Io stands the Op of a redirection.
-/
import Derived.Test.YtnamineofpeahaaGreatDoorM30
namespace Go.Proofs.YtnamineofpeahaaGreatDoor

/-- Behind an Io stands the Op of a redirection. -/
def Iq (l : List Tok) : Prop := ∀ (i : Nat) (t u : Tok), l[i]? = some t → l[i + 1]? = some u → t.kind = 4 → 1 ≤ (redirOf u.text).2 ∧ (redirOf u.text).2 ≤ 6
theorem Iq.nil : Iq [] := fun i t u h => by simp at h
theorem Iq.tail {l : List Tok} (h : Iq l) : Iq l.tail := fun i t u h1 h2 h3 => h (i + 1) t u (by simpa using h1) (by simpa using h2) h3
def Sw (s s' : Pz) : Prop := (Iq s.toks → Iq s'.toks) ∧ (s'.we = 0 → s.we = 0)
theorem Sw.refl (s : Pz) : Sw s s := ⟨id, id⟩
theorem Sw.trans {s t u : Pz} (h : Sw s t) (h2 : Sw t u) : Sw s u := ⟨fun k => h2.1 (h.1 k), fun k => h.2 (h2.2 k)⟩
namespace Pz
theorem sw_fail (s : Pz) (e p : Int) : Sw s (s.fail e p) := by
 unfold fail
 split
 ·next h => exact ⟨fun _ => Iq.nil, fun _ => h⟩
 ·exact .refl s
theorem sw_take (s : Pz) : Sw s s.take := ⟨fun h => h.tail, id⟩
theorem sw_misfit (s : Pz) : Sw s s.misfit := by
 unfold misfit
 split
 ·exact sw_fail _ _ _
 ·split
  ·exact sw_fail _ _ _
  ·exact sw_fail _ _ _
theorem sw_want (s : Pz) (t : ByteArray) : Sw s (s.want t) := by
 unfold want
 split
 ·exact sw_take s
 ·exact sw_misfit s
theorem sw_skips (s : Pz) (t : ByteArray) : Sw s (s.skips t) := by
 unfold skips
 split
 ·exact sw_take s
 ·exact .refl s
theorem sw_gapN : ∀ (n : Nat) (s : Pz), Sw s (gapN n s)
 | 0, s => .refl s
 | n + 1, s => by
   unfold gapN
   split
   ·exact (sw_take s).trans (sw_gapN n _)
   ·exact .refl s
theorem sw_gap (s : Pz) : Sw s s.gap := sw_gapN _ s
theorem sw_endS (s : Pz) : Sw s s.endS := by
 unfold endS
 split
 ·exact (sw_take s).trans (sw_gap _)
 ·exact .refl s
theorem sw_parts (s : Pz) (k : Nat) (t : ByteArray) (p : Int) : Sw s (s.parts k t p).2 := by
 unfold parts
 simp only
 split
 ·exact .refl s
 ·exact sw_fail _ _ _
theorem sw_wantWord (s : Pz) : Sw s s.wantWord.2 := by
 unfold wantWord
 simp only
 split
 ·exact sw_take s
 ·exact (sw_misfit s).trans (sw_take _)
theorem sw_word (s : Pz) : Sw s s.word.2 := (sw_wantWord s).trans (sw_parts _ _ _ _)
theorem sw_number (s : Pz) : Sw s s.number.2 := by
 unfold number
 simp only
 split
 ·exact sw_take s
 ·exact (sw_take s).trans (sw_fail _ _ _)
theorem sw_inPlace (s : Pz) (o : Tok) : Sw s (s.inPlace o).2 := by
 unfold inPlace
 simp only
 split
 ·exact sw_wantWord s
 ·exact (sw_wantWord s).trans (sw_parts _ _ _ _)
theorem sw_redir (s : Pz) : Sw s s.redir.2 := by
 have hk : ∀ s1 : Pz, Sw s s1 → Sw s (if (redirOf s1.next.text).2 = 6 then s1.take.inPlace s1.next else s1.take.word).2 := fun s1 h1 => by
  split
  ·exact (h1.trans (sw_take s1)).trans (sw_inPlace _ _)
  ·exact (h1.trans (sw_take s1)).trans (sw_word _)
 unfold redir
 simp only
 split
 ·exact hk s.number.2 (sw_number s)
 ·exact hk s (.refl s)
theorem sw_redirsN : ∀ (n : Nat) (s : Pz), Sw s (redirsN n s).2
 | 0, s => .refl s
 | n + 1, s => by
   unfold redirsN
   split
   ·exact (sw_redir s).trans (sw_redirsN n _)
   ·exact .refl s
theorem sw_redirs (s : Pz) : Sw s s.redirs.2 := sw_redirsN _ s
theorem sw_wordsN : ∀ (n : Nat) (s : Pz), Sw s (wordsN n s).2
 | 0, s => .refl s
 | n + 1, s => by
   unfold wordsN
   split
   ·exact (sw_word s).trans (sw_wordsN n _)
   ·exact .refl s
theorem sw_words (s : Pz) : Sw s s.words.2 := sw_wordsN _ s
theorem sw_lets (s : Pz) : Sw s s.lets.2 := (sw_take s).trans (sw_parts _ _ _ _)
theorem sw_simpleN : ∀ (n : Nat) (c : Smp) (s : Pz), Sw s (simpleN n c s).2
 | 0, c, s => .refl s
 | n + 1, c, s => by
   unfold simpleN
   split
   ·exact (sw_redir s).trans (sw_simpleN n _ _)
   ·split
    ·exact (sw_lets s).trans (sw_simpleN n _ _)
    ·split
     ·exact (sw_word s).trans (sw_simpleN n _ _)
     ·exact .refl s
theorem sw_simple (s : Pz) : Sw s s.simple.2 := by
 unfold simple
 split
 ·exact sw_simpleN _ _ _
 ·exact sw_misfit s
theorem sw_name (s : Pz) : Sw s s.name.2 := by
 unfold name
 simp only
 split
 ·exact sw_take s
 ·exact (sw_misfit s).trans (sw_take _)
theorem sw_altsN : ∀ (n : Nat) (s : Pz), Sw s (altsN n s).2
 | 0, s => .refl s
 | n + 1, s => by
   unfold altsN
   split
   ·exact ((sw_take s).trans (sw_word _)).trans (sw_altsN n _)
   ·exact .refl s
end Pz
open Pz
theorem sw_lineEnd (s : Pz) : Sw s s.lineEnd := by
 unfold Pz.lineEnd
 split
 ·exact sw_want _ _
 ·exact sw_fail _ _ _
/-- A reader keeps to it. -/
def SR (r : Pz → Cm × Pz) : Prop := ∀ s, Sw s (r s).2
theorem sr_enclosed {lst : Pz → Cm × Pz} (h : SR lst) (k : Int) (c : ByteArray) : SR (Pz.enclosed lst k c) := fun s => ((sw_take s).trans (h _)).trans (sw_want _ _)
theorem sr_branchesN {lst : Pz → Cm × Pz} (h : SR lst) : ∀ n, SR (Pz.branchesN lst n)
 | 0 => fun s => .refl s
 | n + 1 => fun s => by
   have h1 : Sw s (lst ((lst s.take).2.want kThen)).2 := (((sw_take s).trans (h _)).trans (sw_want _ _)).trans (h _)
   unfold Pz.branchesN
   simp only
   split
   ·exact h1.trans (sr_branchesN h n _)
   ·split
    ·exact ((h1.trans (sw_take _)).trans (h _)).trans (sw_want _ _)
    ·exact h1.trans (sw_want _ _)
theorem sr_branches {lst : Pz → Cm × Pz} (h : SR lst) : SR (Pz.branches lst) := fun s => sr_branchesN h _ s
theorem sr_doGroup {lst : Pz → Cm × Pz} (h : SR lst) : SR (Pz.doGroup lst) := fun s => ((sw_want s _).trans (h _)).trans (sw_want _ _)
theorem sr_loop {lst : Pz → Cm × Pz} (h : SR lst) (k : Int) : SR (fun s => Pz.loop lst k s) := fun s => ((sw_take s).trans (h _)).trans (sr_doGroup h _)
theorem sr_each {lst : Pz → Cm × Pz} (h : SR lst) : SR (Pz.each lst) := fun s => by
 have h1 : Sw s ((s.take.name.2.skips semi).gap) := (((sw_take s).trans (sw_name _)).trans (sw_skips _ _)).trans (sw_gap _)
 unfold Pz.each
 simp only
 split
 ·refine Sw.trans ?_ (sr_doGroup h _)
  have h2 := (h1.trans (sw_take _)).trans (sw_words _)
  split
  ·exact h2.trans (sw_endS _)
  ·exact h2.trans (sw_misfit _)
 ·exact h1.trans (sr_doGroup h _)
theorem sw_item {lst : Pz → Cm × Pz} (h : SR lst) (s : Pz) : Sw s (Pz.item lst s).2 := by
 have h1 : Sw s (itS s) := ((((sw_skips s _).trans (sw_word _)).trans (sw_altsN _ _)).trans (sw_want _ _)).trans (sw_gap _)
 have : (Pz.item lst s).2 = if (itS s).sees [kDsemi, kEsac] then itS s else (lst (itS s)).2 := by
  unfold Pz.item itS
  simp only
  split <;> rfl
 rw [this]
 split
 ·exact h1
 ·exact h1.trans (h _)
theorem sw_itemsN {lst : Pz → Cm × Pz} (h : SR lst) : ∀ (n : Nat) (s : Pz), Sw s (Pz.itemsN lst n s).2
 | 0, s => .refl s
 | n + 1, s => by
   rw [itemsN_succ]
   split
   ·exact .refl s
   ·split
    ·exact (((sw_item h s).trans (sw_take _)).trans (sw_gap _)).trans (sw_itemsN h n _)
    ·exact sw_item h s
theorem sr_choice {lst : Pz → Cm × Pz} (h : SR lst) : SR (Pz.choice lst) := fun s => (((((sw_take s).trans (sw_word _)).trans (sw_gap _)).trans (sw_want _ _)).trans (sw_gap _)).trans ((sw_itemsN h _ _).trans (sw_want _ _))
theorem sr_begin {lst : Pz → Cm × Pz} (h : SR lst) {t : ByteArray} {r : Pz → Cm × Pz} (hr : Pz.beginOf lst t = some r) : SR r := by
 unfold Pz.beginOf at hr
 split at hr
 ·injection hr with hr; subst hr; exact sr_enclosed h _ _
 ·split at hr
  ·injection hr with hr; subst hr; exact sr_enclosed h _ _
  ·split at hr
   ·injection hr with hr; subst hr; exact sr_branches h
   ·split at hr
    ·injection hr with hr; subst hr; exact sr_loop h _
    ·split at hr
     ·injection hr with hr; subst hr; exact sr_loop h _
     ·split at hr
      ·injection hr with hr; subst hr; exact sr_each h
      ·split at hr
       ·injection hr with hr; subst hr; exact sr_choice h
       ·cases hr
theorem sr_within {r : Pz → Cm × Pz} (h : SR r) : SR (Pz.within r) := fun s => by
 unfold Pz.within
 split
 ·exact sw_fail _ _ _
 ·exact h { s with deep := s.deep + 1 }
theorem sr_compound {lst : Pz → Cm × Pz} (h : SR lst) : SR (Pz.compound lst) := fun s => by
 unfold Pz.compound
 split
 ·exact sw_misfit s
 ·rename_i r hr
  exact (sr_within (sr_begin h hr) s).trans (sw_redirs _)
theorem sr_function {lst : Pz → Cm × Pz} (h : SR lst) : SR (Pz.function lst) := fun s => ((((sw_name s).trans (sw_want _ _)).trans (sw_want _ _)).trans (sw_gap _)).trans (sr_compound h _)
theorem sr_command {lst : Pz → Cm × Pz} (h : SR lst) : SR (Pz.command lst) := fun s => by
 unfold Pz.command
 split
 ·exact sr_compound h s
 ·split
  ·exact sw_misfit s
  ·split
   ·exact sr_within (sr_function h) s
   ·exact sw_simple s
theorem sw_pipesN {lst : Pz → Cm × Pz} (h : SR lst) : ∀ (n : Nat) (s : Pz), Sw s (Pz.pipesN lst n s).2
 | 0, s => .refl s
 | n + 1, s => by
   unfold Pz.pipesN
   split
   ·exact (((sw_take s).trans (sw_gap _)).trans (sr_command h _)).trans (sw_pipesN h n _)
   ·exact .refl s
theorem sr_pipeline {lst : Pz → Cm × Pz} (h : SR lst) : SR (Pz.pipeline lst) := fun s => ((sw_skips s _).trans (sr_command h _)).trans (sw_pipesN h _ _)
theorem sw_andOrN {lst : Pz → Cm × Pz} (h : SR lst) : ∀ (n : Nat) (c : Cm) (s : Pz), Sw s (Pz.andOrN lst n c s).2
 | 0, c, s => .refl s
 | n + 1, c, s => by
   rw [andOrN_succ]
   split
   ·exact (((sw_take s).trans (sw_gap _)).trans (sr_pipeline h _)).trans (sw_andOrN h n _ _)
   ·exact .refl s
theorem sr_andOr {lst : Pz → Cm × Pz} (h : SR lst) : SR (Pz.andOr lst) := fun s => (sr_pipeline h s).trans (sw_andOrN h _ _ _)
theorem sw_moreN {lst : Pz → Cm × Pz} (h : SR lst) : ∀ (n : Nat) (s : Pz), Sw s (Pz.moreN lst n s).2
 | 0, s => .refl s
 | n + 1, s => by
   rw [moreN_succ]
   split
   ·split
    ·exact ((sw_endS s).trans (sr_andOr h _)).trans (sw_moreN h n _)
    ·exact sw_endS s
   ·exact .refl s
theorem sr_listG {lst : Pz → Cm × Pz} (h : SR lst) : SR (Pz.listG lst) := fun s => ((sw_gap s).trans (sr_andOr h _)).trans (sw_moreN h _ _)
theorem sw_lineN {lst : Pz → Cm × Pz} (h : SR lst) : ∀ (n : Nat) (s : Pz), Sw s (Pz.lineN lst n s).2
 | 0, s => .refl s
 | n + 1, s => by
   rw [lineN_succ]
   split
   ·split
    ·exact ((sw_take s).trans (sr_andOr h _)).trans (sw_lineN h n _)
    ·exact sw_take s
   ·exact .refl s
theorem sr_list : ∀ n, SR (Pz.list n)
 | 0 => fun s => .refl s
 | n + 1 => sr_listG (sr_list n)
theorem sr_line {lst : Pz → Cm × Pz} (h : SR lst) : SR (Pz.line lst) := fun s => ((sr_andOr h s).trans (sw_lineN h _ _)).trans (sw_lineEnd _)

end Go.Proofs.YtnamineofpeahaaGreatDoor

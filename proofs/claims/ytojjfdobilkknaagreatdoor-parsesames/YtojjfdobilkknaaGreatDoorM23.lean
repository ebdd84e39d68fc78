/- Commands in memory: nine cells each; their rows; items.; The parser's simple command: the walk.; What the parser's readers of commands answer, and how they end. -/
import Derived.Test.YtojjfdobilkknaaGreatDoorM22
import Derived.Deep.DeepCutAuto
import Derived.Deep.CutRange
import Derived.Test.YtojjfdobilkknaaGreatDoorM14
import Derived.Maps.RangeWalk
set_option maxRecDepth 20000
set_option maxHeartbeats 4000000
namespace Go.Proofs.YtojjfdobilkknaaGreatDoor
open Go.RowKit
def RowOf (w : World) (A : Nat → Prop) (t : TypeId) (sz : Nat) (v : Value) (n : Nat) (csf : Nat → List Value) : Prop := ∃ ad cap, v = .slice ad n cap ∧ (n = 0 ∨ ∃ g cur, ad = some ⟨g, 0, none⟩ ∧ A g ∧ Blk w g t cur ∧ ∀ i, i < n → ∀ (j : Nat) (u : Value), (csf i)[j]? = some u → cur[i * sz + j]? = some u)
inductive CmAt (w : World) (A : Nat → Prop) : Cm → List Value → Prop
 | mk (k : Int) (no : Bool) (lets : List (List UInt8 × Wd)) (words : List Wd) (redirs : List (Int × Int × Wd)) (cmds : List Cm) (name : List UInt8) (ev : Bool) (items : List (List Wd × List Cm)) (vl vw vr vc vi : Value) (cf : Nat → List Value) (wf bf : Nat → Value) (df : Nat → Nat → List Value)
   (hl : RowAt Kl w A vl lets) (hw : RowAt Kw w A vw words) (hr : RowAt Kr w A vr redirs)
   (hc : RowOf w A 33 9 vc cmds.length cf) (hcs : ∀ i c, cmds[i]? = some c → CmAt w A c (cf i))
   (hi : RowOf w A 59 2 vi items.length (fun i => [wf i, bf i]))
   (hiw : ∀ i x, items[i]? = some x → RowAt Kw w A (wf i) x.1 ∧ RowOf w A 33 9 (bf i) x.2.length (df i))
   (his : ∀ i x, items[i]? = some x → ∀ j c, x.2[j]? = some c → CmAt w A c (df i j)) :
   CmAt w A (.mk k no lets words redirs cmds name ev items) [.int .i64 k, .bool no, vl, vw, vr, vc, .string (BA name), .bool ev, vi]
theorem RowOf.kept {w w' : World} {A B : Nat → Prop} {t : TypeId} {sz : Nat} {v : Value} {n : Nat} {csf : Nat → List Value} (h : RowOf w A t sz v n csf) (hk : ∀ k, A k → w'.heap[k]? = w.heap[k]?) (hm : ∀ k, A k → B k) : RowOf w' B t sz v n csf := by
 obtain ⟨ad, cap, h1, h2 | ⟨g, cur, h3, h4, h5, h6⟩⟩ := h
 ·exact ⟨ad, cap, h1, .inl h2⟩
 ·exact ⟨ad, cap, h1, .inr ⟨g, cur, h3, hm g h4, (hk g h4).trans h5, h6⟩⟩
theorem RowOf.one {w : World} {A : Nat → Prop} {t : TypeId} {sz : Nat} {v : Value} {n : Nat} {csf : Nat → List Value} (h : RowOf w A t sz v n csf) : v.oneCell' = true := by
 obtain ⟨ad, cap, rfl, _⟩ := h
 rfl
theorem RowAt.one {α : Type} {K : Kd α} {w : World} {A : Nat → Prop} {v : Value} {l : List α} (h : RowAt K w A v l) : v.oneCell' = true := by
 obtain ⟨ad, cap, rfl, _⟩ := h
 rfl
theorem CmAt.kept {w w' : World} {A B : Nat → Prop} {c : Cm} {cs : List Value} (h : CmAt w A c cs) (hk : ∀ k, A k → w'.heap[k]? = w.heap[k]?) (hm : ∀ k, A k → B k) : CmAt w' B c cs := by
 induction h with
 | mk k no lets words redirs cmds name ev items vl vw vr vc vi cf wf bf df hl hw hr hc hcs hi hiw his ih1 ih2 =>
   exact .mk k no lets words redirs cmds name ev items vl vw vr vc vi cf wf bf df (hl.kept hk hm) (hw.kept hk hm) (hr.kept hk hm) (hc.kept hk hm) ih1 (hi.kept hk hm) (fun i x hx => ⟨(hiw i x hx).1.kept hk hm, (hiw i x hx).2.kept hk hm⟩) ih2
def Kc : Kd Cm where
 t := 33
 sz := 9
 rel w A x cs := CmAt w A x cs
 len := by intro w A x cs h; cases h; rfl
 one := by
  intro w A x cs h u hu
  cases h with
  | mk k no lets words redirs cmds name ev items vl vw vr vc vi cf wf bf df hl hw hr hc hcs hi =>
    simp at hu
    rcases hu with rfl | rfl | rfl | rfl | rfl | rfl | rfl | rfl | rfl
    ·rfl
    ·rfl
    ·exact hl.one
    ·exact hw.one
    ·exact hr.one
    ·exact hc.one
    ·rfl
    ·rfl
    ·exact hi.one
 kept := fun h h1 h2 => h.kept h1 h2
theorem RowOf.row {w : World} {A : Nat → Prop} {v : Value} {l : List Cm} {csf : Nat → List Value} (h : RowOf w A 33 9 v l.length csf) (hc : ∀ i c, l[i]? = some c → CmAt w A c (csf i)) : RowAt Kc w A v l := by
 obtain ⟨ad, cap, h1, h2 | ⟨g, cur, h3, h4, h5, h6⟩⟩ := h
 ·exact ⟨ad, cap, h1, .inl (List.eq_nil_of_length_eq_zero h2)⟩
 ·exact ⟨ad, cap, h1, .inr ⟨g, cur, h3, h4, h5, fun i x hx => ⟨csf i, hc i x hx, h6 i (List.getElem?_eq_some_iff.1 hx).1⟩⟩⟩
theorem RowAt.of {w : World} {A : Nat → Prop} {v : Value} {l : List Cm} (h : RowAt Kc w A v l) : ∃ csf, RowOf w A 33 9 v l.length csf ∧ ∀ i c, l[i]? = some c → CmAt w A c (csf i) := by
 obtain ⟨ad, cap, h1, h2 | ⟨g, cur, h3, h4, h5, h6⟩⟩ := h
 ·subst h2
  exact ⟨fun _ => [], ⟨ad, cap, h1, .inl rfl⟩, fun i c hx => by simp at hx⟩
 ·haveI := Classical.propDecidable
  have hx : ∀ i, ∃ cs, ∀ x, l[i]? = some x → CmAt w A x cs ∧ ∀ (j : Nat) (u : Value), cs[j]? = some u → cur[i * 9 + j]? = some u := fun i => by
   cases hi : l[i]? with
   | none => exact ⟨[], fun x e => by cases e⟩
   | some x =>
     obtain ⟨cs, c1, c2⟩ := h6 i x hi
     exact ⟨cs, fun y e => by cases e; exact ⟨c1, c2⟩⟩
  refine ⟨fun i => Classical.choose (hx i), ⟨ad, cap, h1, .inr ⟨g, cur, h3, h4, h5, fun i hi => ?_⟩⟩, fun i c hc => (Classical.choose_spec (hx i) c hc).1⟩
  exact (Classical.choose_spec (hx i) _ (List.getElem?_eq_getElem hi)).2
def Ki : Kd (List Wd × List Cm) where
 t := 59
 sz := 2
 rel w A x cs := ∃ vw vb, cs = [vw, vb] ∧ RowAt Kw w A vw x.1 ∧ RowAt Kc w A vb x.2
 len := by rintro w A x cs ⟨vw, vb, rfl, _⟩; rfl
 one := by
  rintro w A x cs ⟨vw, vb, rfl, h1, h2⟩ u hu
  simp at hu
  rcases hu with rfl | rfl
  ·exact h1.one
  ·exact h2.one
 kept := by rintro w w' A B x cs ⟨vw, vb, rfl, h1, h2⟩ hk hm; exact ⟨vw, vb, rfl, h1.kept hk hm, h2.kept hk hm⟩
theorem CmAt.of {w : World} {A : Nat → Prop} {k : Int} {no : Bool} {lets : List (List UInt8 × Wd)} {words : List Wd} {redirs : List (Int × Int × Wd)} {cmds : List Cm} {name : List UInt8} {ev : Bool} {items : List (List Wd × List Cm)} {vl vw vr vc vi : Value} (hl : RowAt Kl w A vl lets) (hw : RowAt Kw w A vw words) (hr : RowAt Kr w A vr redirs) (hc : RowAt Kc w A vc cmds) (hi : RowAt Ki w A vi items) : CmAt w A (.mk k no lets words redirs cmds name ev items) [.int .i64 k, .bool no, vl, vw, vr, vc, .string (BA name), .bool ev, vi] := by
 obtain ⟨cf, c1, c2⟩ := hc.of
 obtain ⟨ad, cap, h1, h2 | ⟨g, cur, h3, h4, h5, h6⟩⟩ := hi
 ·subst h2
  exact .mk k no lets words redirs cmds name ev [] vl vw vr vc vi cf (fun _ => undef) (fun _ => undef) (fun _ _ => []) hl hw hr c1 c2 ⟨ad, cap, h1, .inl rfl⟩ (fun i x hx => by simp at hx) (fun i x hx => by simp at hx)
 ·have hx : ∀ i, ∃ (p : Value × Value × (Nat → List Value)), ∀ x, items[i]? = some x → (RowAt Kw w A p.1 x.1 ∧ RowOf w A 33 9 p.2.1 x.2.length p.2.2 ∧ ∀ j c, x.2[j]? = some c → CmAt w A c (p.2.2 j)) ∧ ∀ (j : Nat) (u : Value), [p.1, p.2.1][j]? = some u → cur[i * 2 + j]? = some u := fun i => by
   cases hi : items[i]? with
   | none => exact ⟨(undef, undef, fun _ => []), fun x e => by cases e⟩
   | some x =>
     obtain ⟨cs, ⟨vw', vb', rfl, r1, r2⟩, c2⟩ := h6 i x hi
     obtain ⟨df, d1, d2⟩ := r2.of
     exact ⟨(vw', vb', df), fun y e => by cases e; exact ⟨⟨r1, d1, d2⟩, c2⟩⟩
  refine .mk k no lets words redirs cmds name ev items vl vw vr vc vi cf (fun i => (Classical.choose (hx i)).1) (fun i => (Classical.choose (hx i)).2.1) (fun i => (Classical.choose (hx i)).2.2) hl hw hr c1 c2 ⟨ad, cap, h1, .inr ⟨g, cur, h3, h4, h5, fun i hi => ?_⟩⟩ (fun i x hx' => ?_) (fun i x hx' => ?_)
  ·exact (Classical.choose_spec (hx i) _ (List.getElem?_eq_getElem hi)).2
  ·have := (Classical.choose_spec (hx i) x hx').1
   exact ⟨this.1, this.2.1⟩
  ·exact (Classical.choose_spec (hx i) x hx').1.2.2
theorem CmAt.rows {w : World} {A : Nat → Prop} {k : Int} {no : Bool} {lets : List (List UInt8 × Wd)} {words : List Wd} {redirs : List (Int × Int × Wd)} {cmds : List Cm} {name : List UInt8} {ev : Bool} {items : List (List Wd × List Cm)} {cs : List Value} (h : CmAt w A (.mk k no lets words redirs cmds name ev items) cs) : ∃ vl vw vr vc vi, cs = [.int .i64 k, .bool no, vl, vw, vr, vc, .string (BA name), .bool ev, vi] ∧ RowAt Kl w A vl lets ∧ RowAt Kw w A vw words ∧ RowAt Kr w A vr redirs ∧ RowAt Kc w A vc cmds ∧ RowAt Ki w A vi items := by
 cases h with
 | mk _ _ _ _ _ _ _ _ _ vl vw vr vc vi cf wf bf df hl hw hr hc hcs hi hiw his =>
   refine ⟨vl, vw, vr, vc, vi, rfl, hl, hw, hr, hc.row hcs, ?_⟩
   obtain ⟨ad, cap, h1, h2 | ⟨g, cur, h3, h4, h5, h6⟩⟩ := hi
   ·exact ⟨ad, cap, h1, .inl (List.eq_nil_of_length_eq_zero h2)⟩
   ·refine ⟨ad, cap, h1, .inr ⟨g, cur, h3, h4, h5, fun i x hx => ⟨[wf i, bf i], ⟨wf i, bf i, rfl, (hiw i x hx).1, (hiw i x hx).2.row (his i x hx)⟩, h6 i (List.getElem?_eq_some_iff.1 hx).1⟩⟩⟩
theorem step_app_run {P : Program} {ops : Array Oper} {o : Oper} {a : Act} {w W : World} {K : Act → World → Prop} {Q : Exit → Act → World → Prop} {E : Prop} (hgd : o.guard = none) (s x : Operand) (t : TypeId)
 (ho : o.op = .call { callee := .builtin .append, args := #[s, x], argTypes := #[t, t] }) (u v r : Value) (hs : a.eval s = u) (hx : a.eval x = v) (hr : ∀ ty, (Builtin.append_ #[t, t] ty #[u, v]).run P w = .ok r W)
 (h : K (a.put o.dst r) W) : if Region.wanted o (yielded ops a.tmps) = true then Oper.wp P o a w K Q else E := by
 rw [if_pos (by simp [Region.wanted, hgd])]
 unfold Oper.wp execOp
 simp only [ho, resolve, invoke, builtin, Sem.run_bind, Sem.run_pure, Result.andThen_ok, List.map_toArray, List.map_cons, List.map_nil, hs, hx, hr]
 exact h
def smpR (r : Pz.Smp × Pz) : Cm × Pz := (.mk 1 false r.1.lets r.1.words r.1.redirs [] [] false [], r.2)
theorem psimple_any (w : World) (b : Nat) (mp : Value) (s : Pz) (H : PzAt w b mp s) (he : PEnv w) (hb : 7 ≤ b) : Calls Tryz.prog 103 #[.pointer (some ⟨b, 0, none⟩)] w fun e w' => ∃ vl vw vr c nb, e = .returned (.agg (cmC vl vw vr)) ∧ SimpEnd w w' b nb mp s.simple.2 vl vw vr c ∧ s.simple.1 = .mk 1 false c.lets c.words c.redirs [] [] false [] := by
 obtain ⟨W2, hW2⟩ : ∃ W2, W2 = (w.alloc (.cells #[.int .i64 0, .bool false, .slice none 0 0, .slice none 0 0, .slice none 0 0, .slice none 0 0, .string ⟨#[]⟩, .bool false, .slice none 0 0] 33)).alloc (.cells (cmC (.slice none 0 0) (.slice none 0 0) (.slice none 0 0)) 33) := ⟨_, rfl⟩
 obtain ⟨nb, hnb⟩ : ∃ nb, nb = w.heap.size := ⟨_, rfl⟩
 obtain ⟨nc, hnc⟩ : ∃ nc, nc = w.heap.size + 1 := ⟨_, rfl⟩
 have hb2 : Below w.heap.size w W2 := by rw [hW2]; exact ((Below.refl _ w).alloc (ler _) _).alloc (by simp) _
 have hbw := H.lt
 have S2 : Hid (Sp w W2 (nc + 1) b nc mp s (.slice none 0 0) (.slice none 0 0) (.slice none 0 0) ⟨[], [], []⟩ ∧ Blk W2 nb 33 #[.int .i64 0, .bool false, .slice none 0 0, .slice none 0 0, .slice none 0 0, .slice none 0 0, .string ⟨#[]⟩, .bool false, .slice none 0 0]) := hide (by
  refine ⟨⟨leg_below hb2, ?_, H.below hb2, he.below hb2, growsG_nil _ _ _ _, growsG_nil _ _ _ _, growsG_nil _ _ _ _, hb, by omega, by omega, by omega, ?_⟩, ?_⟩
  ·rw [hW2, hnc]
   have := Blk.new (w.alloc (.cells #[.int .i64 0, .bool false, .slice none 0 0, .slice none 0 0, .slice none 0 0, .slice none 0 0, .string ⟨#[]⟩, .bool false, .slice none 0 0] 33)) 33 (cmC (.slice none 0 0) (.slice none 0 0) (.slice none 0 0))
   simpa using this
  ·rw [hW2, hnc]
   simp
  ·rw [hW2, hnb]
   exact (Blk.new _ _ _).alloc _)
 have HNN : Hid (w.heap.size ≤ nb ∧ nb < nc ∧ b < nb) := hide ⟨by omega, by omega, by omega⟩
 have hfew := H.ok.few
 have HSW := hide (pseesWord_any W2 b mp s (uh S2).1.pz)
 have HW2 := hide hW2
 have HNB := hide hnb
 have HNC := hide hnc
 obtain ⟨R, hR⟩ : ∃ R, R = s.simple := ⟨_, rfl⟩
 rw [← hR]
 have HR := hide hR
 clear hW2 hnb hnc hb2 hbw H he hR
 unfold cmC at HW2
 go_enter Tryz.func103, Tryz.ntmps103
 go_upto_region 2 with fail
 rw [← uh HW2, ← uh HNC, ← uh HNB]
 clear HW2
 obtain ⟨q, hq⟩ : ∃ q, q = !(s.seesWord || s.seesRedir) := ⟨_, rfl⟩
 have HQ := hide hq
 clear hq
 go_cut [12] from 5 to 12 (fun x wx => x = .bool q ∧ Hid (Below W2.heap.size W2 wx))
 case first =>
  cases hs : s.seesWord with
  | true =>
    rw [hs] at HSW
    have HQ2 : Hid (q = false) := hide (by rw [uh HQ, hs]; rfl)
    clear hs
    go_wp2_with fail
    refine (uh HSW).mono ?_
    rintro e w3 ⟨rfl, b3⟩
    have HB3 := hide b3
    clear b3
    go_wp2
    go_meet
    exact ⟨by rw [uh HQ2], HB3⟩
  | false =>
    rw [hs] at HSW
    have HQ2 : Hid ((!s.seesRedir) = q) := hide (by rw [uh HQ, hs]; rfl)
    clear hs
    go_wp2_with fail
    refine (uh HSW).mono ?_
    rintro e w3 ⟨rfl, b3⟩
    have HB3 := hide b3
    have HSR := hide (pseesRedir_any w3 b mp s ((uh S2).1.pz.below b3) ((uh S2).1.env.below b3))
    clear b3
    go_wp2_with fail
    refine (uh HSR).mono ?_
    rintro e w4 ⟨rfl, b4⟩
    have HB4 := hide ((uh HB3).trans (b4.mono (uh HB3).size))
    clear b4
    go_wp2
    go_meet
    exact ⟨by rw [← uh HQ2], HB4⟩
 case rest =>
 obtain ⟨rfl, HBC⟩ := hcut
 have S3 := hide (And.intro ((uh S2).1.below (uh HBC)) ((uh S2).2.below (uh HBC) (uh S2).2.lt))
 clear S2 HBC HSW
 cases q with
 | true =>
   have HRE : Hid (R = (.mk 1 false [] [] [] [] [] false [], s.misfit)) := hide (by
    rw [uh HR]
    unfold Pz.simple
    rw [show (s.seesWord || s.seesRedir) = false by have := uh HQ; cases hx : (s.seesWord || s.seesRedir) with
     | false => rfl
     | true => rw [hx] at this; cases this]
    rfl)
   go_wp2_with fail
   refine (pmisfit_any wc b mp s (uh S3).1.pz).mono ?_
   rintro e w4 ⟨rfl, p4, f4⟩
   have s4 := (uh S3).1.step p4 f4
   have k4 := (uh S3).2.grownS f4 (fun e => by have := (uh HNN).2.2; omega)
   have HEND := hide (s4.fin k4 (uh HNN).1 (uh HNN).2.1 (uh HNN).2.2)
   obtain ⟨c0, c1, c2, c3, c4, c5, c6, c7, c8⟩ := cel9 s4.cb
   obtain ⟨z0, z1, z2, z3, z4, z5, z6, z7, z8⟩ := cel9 k4
   have zf : ∀ i, w4.frozen? ⟨nb, i, none⟩ = false := fun i => k4.frozen i
   clear p4 f4 s4 k4 S3
   go_wp2
   refine bodyPost_ret (results_cell_row (P := Tryz.prog) rfl _ _ nb 33 _ (0, 0) _ rfl (uh HEND).1 Tryz.underlying33 rfl (by kernel_rfl)) rfl ⟨_, _, _, _, nb, rfl, by rw [uh HRE]; exact uh HEND, by rw [uh HRE]⟩
 | false =>
   have HRE : Hid (R = smpR (Pz.simpleN s.toks.length ⟨[], [], []⟩ s)) := hide (by
    rw [uh HR]
    unfold Pz.simple
    rw [show (s.seesWord || s.seesRedir) = true by have := uh HQ; cases hx : (s.seesWord || s.seesRedir) with
     | true => rfl
     | false => rw [hx] at this; cases this]
    rfl)
   clear HR HQ
   go_wp2_with fail
   go_loopg [] s.toks.length (fun g wr => ∃ (s' : Pz) (c : Pz.Smp) (al : Option Addr) (cl : Nat) (aw : Option Addr) (cw : Nat) (ar : Option Addr) (cr : Nat), s'.toks.length ≤ g ∧ c.lets.length + g ≤ 100000 ∧ c.words.length + g ≤ 100000 ∧ c.redirs.length + g ≤ 100000 ∧ Hid (R = smpR (Pz.simpleN g c s') ∧ Sp w wr (nc + 1) b nc mp s' (.slice al c.lets.length cl) (.slice aw c.words.length cw) (.slice ar c.redirs.length cr) c ∧ Blk wr nb 33 #[.int .i64 0, .bool false, .slice none 0 0, .slice none 0 0, .slice none 0 0, .slice none 0 0, .string ⟨#[]⟩, .bool false, .slice none 0 0]))
   case atStart => exact ⟨s, ⟨[], [], []⟩, none, 0, none, 0, none, 0, ler _, by simpa using hfew, by simpa using hfew, by simpa using hfew, hide ⟨uh HRE, uh S3⟩⟩
   case round =>
    obtain ⟨s', c, al, cl, aw, cw, ar, cr, hg, hg1, hg2, hg3, HI⟩ := hrel
    have HSR := hide (pseesRedir_any wr b mp s' (uh HI).2.1.pz (uh HI).2.1.env)
    cases hr : s'.seesRedir with
    | true =>
      rw [hr] at HSR
      cases gk with
      | zero =>
        rw [seesRedir_none (List.eq_nil_of_length_eq_zero (by omega))] at hr
        cases hr
      | succ m =>
        have HE : Hid (R = smpR (Pz.simpleN m { c with redirs := c.redirs ++ [s'.redir.1] } s'.redir.2)) := hide (by
         rw [(uh HI).1, Pz.simpleN, hr]
         rfl)
        have HLS := hide (redir_less hg)
        clear hr
        go_wp2_with fail
        refine (uh HSR).mono ?_
        rintro e w2 ⟨rfl, b2⟩
        have H2 := hide (And.intro ((uh HI).2.1.below b2) ((uh HI).2.2.below b2 (uh HI).2.2.lt))
        clear b2 HSR
        have c4 : w2.cell? ⟨nc, 4, none⟩ = some (.slice ar c.redirs.length cr) := (uh H2).1.cb.cell 4 rfl
        have HCT : Hid (∀ W, Below w2.heap.size w2 W → Calls Tryz.prog 125 #[.pointer (some ⟨b, 0, none⟩)] W fun e w' => ∃ adv nv cv ad n cap w3, e = .returned (.agg #[.int .i64 s'.redir.1.1, .int .i64 s'.redir.1.2.1, .slice adv nv cv]) ∧ w'.cell? ⟨nc, 4, none⟩ = some (.slice ar c.redirs.length cr) ∧ (∀ ty, (Builtin.append_ #[30, 30] ty #[.slice ar c.redirs.length cr, .slice (some ⟨w'.heap.size, 0, none⟩) 1 1]).run Tryz.prog (w'.alloc (.cells #[.int .i64 s'.redir.1.1, .int .i64 s'.redir.1.2.1, .slice adv nv cv] 38)) = .ok (.slice ad n cap) w3) ∧ w3.cell? ⟨nc, 4, none⟩ = some (.slice ar c.redirs.length cr) ∧ w3.frozen? ⟨nc, 4, none⟩ = false ∧ n = c.redirs.length + 1 ∧ Hid (Sp w (w3.setCell ⟨nc, 4, none⟩ (.slice ad n cap)) (nc + 1) b nc mp s'.redir.2 (.slice al c.lets.length cl) (.slice aw c.words.length cw) (.slice ad n cap) { c with redirs := c.redirs ++ [s'.redir.1] } ∧ Blk (w3.setCell ⟨nc, 4, none⟩ (.slice ad n cap)) nb 33 #[.int .i64 0, .bool false, .slice none 0 0, .slice none 0 0, .slice none 0 0, .slice none 0 0, .string ⟨#[]⟩, .bool false, .slice none 0 0])) := hide (fun W hB => by
         have h5 := (uh H2).1.below hB
         have k5 := (uh H2).2.below hB (uh H2).2.lt
         refine (predir_any W b mp s' h5.pz h5.env hb).mono ?_
         rintro e w' ⟨v, e1, e2, e3, e4⟩
         obtain ⟨adv, cv, hv, _⟩ := e2.len
         obtain ⟨ad, n, cap, w3, r1, r2, r3, r4⟩ := h5.addR' (x := s'.redir.1) e3 e4 e2 (by omega)
         subst hv
         have k6 := k5.grownS e4 (fun e => by have := (uh HNN).2.2; omega)
         have hnn : n = c.redirs.length + 1 := by
          obtain ⟨css, o1, _⟩ := r3.rr
          obtain ⟨_, ⟨q1, q2⟩ | ⟨g, cp, cur, q1, _⟩⟩ := o1
          ·simp at q2
          ·cases q1
           simp
         exact ⟨adv, _, cv, ad, n, cap, w3, e1, (h5.step e3 e4).cb.cell 4 rfl, r1, r2.cell 4 rfl, r2.frozen 4, hnn, hide ⟨r3, (k6.grownS r4 (by have := (uh HNN).2.1; omega)).grownS (fr_set w3 nc 4 _) (by have := (uh HNN).2.1; omega)⟩⟩)
        clear HI
        go_wp2_with fail
        refine wp_region_held_drew (S := fun _ => True) (by kernel_rfl) trivial (fun hHeld => ?_)
        refine tk 0 (v := ?_) ?_ ?_
        rotate_left
        ·intro w hSw; (try dsimp only at hSw); go_simp; (try with_reducible rfl)
        go_frame
        refine tk 2 (v := ?_) ?_ ?_
        rotate_left
        ·intro w hSw; (try dsimp only at hSw); go_simp; (try with_reducible rfl)
        go_frame
        refine wpAnyH_ready (rs := [1, 3]) (by kernel_rfl) (by simp) ?_
        refine AllReadyH.cons rfl (fun KK hKK => ?_) (AllReadyH.cons rfl (fun KK hKK => ?_) AllReadyH.nil)
        focus
         go_simp
         refine hKK.out _ _ trivial (fun hHeld => ?_)
         clear hKK KK
         try go_frame
         refine rd1 3 (fun KK hKK => ?_)
         go_simp
         refine (uh HCT _ (by first | exact Below.refl _ _ | exact below_drew' _ _)).mono ?_
         rintro e w5 ⟨adv, nv, cv, ad, n, cap, w6, rfl, d4, hrun, d5, d6, HNE, HS6⟩
         have HRUN := hide hrun
         have HNX := hide HNE
         clear hrun HNE
         refine hKK.out _ _ trivial (fun hHeld => ?_)
         clear hKK KK
         try go_frame
         refine rd1 4 (fun KK hKK => ?_)
         go_simp
         have d4b : (w5.alloc (.cells #[.int .i64 s'.redir.1.1, .int .i64 s'.redir.1.2.1, .slice adv nv cv] 38)).cell? ⟨nc, 4, none⟩ = some (.slice ar c.redirs.length cr) := cell_alloc d4 _
         refine hKK.out _ _ trivial (fun hHeld => ?_)
         clear hKK KK
         try go_frame
         refine rd1 5 (fun KK hKK => ?_)
         refine step_app_run (by rfl) _ _ _ (by rfl) _ _ _ (by simp [Act.eval]) (by simp [Act.eval]) (uh HRUN) ?_
         refine hKK.out _ _ trivial (fun hHeld => ?_)
         clear hKK KK
         try go_frame
         refine tk 6 (v := ?_) ?_ ?_
         rotate_left
         ·intro w hSw; (try dsimp only at hSw); go_simp; (try with_reducible rfl)
         go_frame
         refine rd1 7 (fun KK hKK => ?_)
         go_simp
         refine hKK.out _ _ trivial (fun hHeld => ?_)
         clear hKK KK
         try go_frame
         clear hHeld
         refine wpAnyH_done (by kernel_rfl) ?_ _
        rotate_left
        focus
         go_simp
         refine (uh HCT _ (by first | exact Below.refl _ _ | exact below_drew' _ _)).mono ?_
         rintro e w5 ⟨adv, nv, cv, ad, n, cap, w6, rfl, d4, hrun, d5, d6, HNE, HS6⟩
         have HRUN := hide hrun
         have HNX := hide HNE
         clear hrun HNE
         refine hKK.out _ _ trivial (fun hHeld => ?_)
         clear hKK KK
         try go_frame
         refine wpAnyH_ready (rs := [1, 4]) (by kernel_rfl) (by simp) ?_
         refine AllReadyH.cons rfl (fun KK hKK => ?_) (AllReadyH.cons rfl (fun KK hKK => ?_) AllReadyH.nil)
         focus
          go_simp
          refine hKK.out _ _ trivial (fun hHeld => ?_)
          clear hKK KK
          try go_frame
          refine rd1 4 (fun KK hKK => ?_)
          go_simp
          have d4b : (w5.alloc (.cells #[.int .i64 s'.redir.1.1, .int .i64 s'.redir.1.2.1, .slice adv nv cv] 38)).cell? ⟨nc, 4, none⟩ = some (.slice ar c.redirs.length cr) := cell_alloc d4 _
          refine hKK.out _ _ trivial (fun hHeld => ?_)
          clear hKK KK
          try go_frame
          refine rd1 5 (fun KK hKK => ?_)
          refine step_app_run (by rfl) _ _ _ (by rfl) _ _ _ (by simp [Act.eval]) (by simp [Act.eval]) (uh HRUN) ?_
          refine hKK.out _ _ trivial (fun hHeld => ?_)
          clear hKK KK
          try go_frame
          refine tk 6 (v := ?_) ?_ ?_
          rotate_left
          ·intro w hSw; (try dsimp only at hSw); go_simp; (try with_reducible rfl)
          go_frame
          refine rd1 7 (fun KK hKK => ?_)
          go_simp
          refine hKK.out _ _ trivial (fun hHeld => ?_)
          clear hKK KK
          try go_frame
          clear hHeld
          refine wpAnyH_done (by kernel_rfl) ?_ _
         rotate_left
         focus
          go_simp
          have d4b : (w5.alloc (.cells #[.int .i64 s'.redir.1.1, .int .i64 s'.redir.1.2.1, .slice adv nv cv] 38)).cell? ⟨nc, 4, none⟩ = some (.slice ar c.redirs.length cr) := cell_alloc d4 _
          refine hKK.out _ _ trivial (fun hHeld => ?_)
          clear hKK KK
          try go_frame
          refine rd1 1 (fun KK hKK => ?_)
          go_simp
          refine hKK.out _ _ trivial (fun hHeld => ?_)
          clear hKK KK
          try go_frame
          refine rd1 5 (fun KK hKK => ?_)
          refine step_app_run (by rfl) _ _ _ (by rfl) _ _ _ (by simp [Act.eval]) (by simp [Act.eval]) (uh HRUN) ?_
          refine hKK.out _ _ trivial (fun hHeld => ?_)
          clear hKK KK
          try go_frame
          refine tk 6 (v := ?_) ?_ ?_
          rotate_left
          ·intro w hSw; (try dsimp only at hSw); go_simp; (try with_reducible rfl)
          go_frame
          refine rd1 7 (fun KK hKK => ?_)
          go_simp
          refine hKK.out _ _ trivial (fun hHeld => ?_)
          clear hKK KK
          try go_frame
          clear hHeld
          refine wpAnyH_done (by kernel_rfl) ?_ _
         rotate_left
        rotate_left 2
        all_goals
         clear d4 d4b d5 d6 HCT HRUN
         go_wp2_with fail
         go_roundg m
         case measure => omega
         case rel => exact ⟨s'.redir.2, { c with redirs := c.redirs ++ [s'.redir.1] }, _, _, _, _, _, _, uh HLS, by simp; omega, by simp; omega, by simp; omega, hide ⟨uh HE, by rw [show ({ c with redirs := c.redirs ++ [s'.redir.1] } : Pz.Smp).redirs.length = n by rw [uh HNX]; simp]; exact (uh HS6).1, (uh HS6).2⟩⟩
    | false =>
      rw [hr] at HSR
      have HNR := hide hr
      clear hr
      go_wp2_with fail
      refine (uh HSR).mono ?_
      rintro e w2 ⟨rfl, b2⟩
      have H2 := hide (And.intro ((uh HI).2.1.below b2) ((uh HI).2.2.below b2 (uh HI).2.2.lt))
      clear b2 HSR
      have c3 : w2.cell? ⟨nc, 3, none⟩ = some (.slice aw c.words.length cw) := (uh H2).1.cb.cell 3 rfl
      obtain ⟨lb, hlb⟩ : ∃ lb, lb = (c.words.isEmpty && !(letN s'.next.text.data.toList).isEmpty) := ⟨_, rfl⟩
      have HLB := hide hlb
      clear hlb
      go_upto_region 8 with fail
      go_cut [27] from 27 to 38 (fun x wx => x = .bool lb ∧ Hid (Below w2.heap.size w2 wx))
      case first =>
       have HTK := hide (pnext_any w2 b mp s' (uh H2).1.pz)
       have HSZ := (uh H2).1.pz.ok.next.1
       obtain ⟨t, ht⟩ : ∃ t, t = s'.next := ⟨_, rfl⟩
       rw [← ht] at HTK HSZ HLB
       obtain ⟨l, hl⟩ : ∃ l, l = t.text.data.toList := ⟨_, rfl⟩
       rw [← hl] at HLB
       have hlen : l.length ≤ 100000 := by rw [hl, data_len]; exact HSZ
       have htx : t.text = BA l := by rw [hl]; exact (BA_of _).symm
       unfold Tok.cells at HTK
       rw [htx] at HTK
       have HLN := hide (fun W => letName_any l W hlen)
       obtain ⟨m, hm⟩ : ∃ m, m = letN l := ⟨_, rfl⟩
       rw [← hm] at HLN HLB
       clear ht hl htx HSZ hm hlen
       by_cases hw : c.words.length = 0
       ·have HL2 : Hid ((!m.isEmpty) = lb) := hide (by rw [uh HLB, List.eq_nil_of_length_eq_zero hw]; rfl)
        rw [hw] at c3
        have hfd : ∀ W, (Instr.field 74 (.agg #[.int .i64 t.kind, .string (BA l), .int .i64 t.pos, .string t.body, .bool t.raw]) 1).run Tryz.prog W = .ok (.string (BA l)) W := fun W => by kernel_rfl
        clear hw
        go_wp2_with fail
        refine (uh HTK).mono ?_
        rintro e w3 ⟨rfl, b3⟩
        have HB3 := hide b3
        clear b3 c3
        go_wp2_with fail
        refine (uh HLN w3).mono ?_
        rintro e w4 ⟨rfl, hw4⟩
        have hw5 := hw4.symm
        subst hw5
        clear hw4
        go_wp2
        go_meet
        exact ⟨by rw [← uh HL2, ByteArray.toList_eq]; rfl, HB3⟩
       ·have hw0 : ((c.words.length : Int) == 0) = false := by rw [beq_eq_false_iff_ne]; omega
        have HL2 : Hid (lb = false) := hide (by
         rw [uh HLB]
         cases hx : c.words with
         | nil => rw [hx] at hw; exact absurd rfl hw
         | cons => rfl)
        clear hw
        go_wp2
        go_meet
        exact ⟨by rw [uh HL2], hide (Below.refl _ _)⟩
      case rest =>
      obtain ⟨rfl, HBC⟩ := hcut
      have H3 := hide (And.intro ((uh H2).1.below (uh HBC)) ((uh H2).2.below (uh HBC) (uh H2).2.lt))
      clear H2 HBC c3
      cases lb with
      | true =>
        have HLN : Hid (letN s'.next.text.data.toList ≠ []) := hide (fun e => by have := uh HLB; rw [e] at this; simp at this)
        cases gk with
        | zero =>
          have h0 : s'.toks = [] := List.eq_nil_of_length_eq_zero (by omega)
          exact absurd (by unfold Pz.next; rw [h0]; decide) (uh HLN)
        | succ m =>
          have HE : Hid (R = smpR (Pz.simpleN m { c with lets := c.lets ++ [s'.lets.1] } s'.lets.2)) := hide (by
           rw [(uh HI).1, Pz.simpleN, uh HNR, ← uh HLB]
           rfl)
          have HLS := hide (lets_less hg)
          obtain ⟨w2, hw2⟩ : ∃ w2, w2 = wc := ⟨_, rfl⟩
          rw [← hw2] at H3 ⊢
          have H2 := H3
          clear hw2 HLB HNR H3
          have c4 : w2.cell? ⟨nc, 2, none⟩ = some (.slice al c.lets.length cl) := (uh H2).1.cb.cell 2 rfl
          have HCT : Hid (∀ W, Below w2.heap.size w2 W → Calls Tryz.prog 127 #[.pointer (some ⟨b, 0, none⟩)] W fun e w' => ∃ adv nv cv ad n cap w3, e = .returned (.agg #[.string (BA s'.lets.1.1), .slice adv nv cv]) ∧ w'.cell? ⟨nc, 2, none⟩ = some (.slice al c.lets.length cl) ∧ (∀ ty, (Builtin.append_ #[28, 28] ty #[.slice al c.lets.length cl, .slice (some ⟨w'.heap.size, 0, none⟩) 1 1]).run Tryz.prog (w'.alloc (.cells #[.string (BA s'.lets.1.1), .slice adv nv cv] 51)) = .ok (.slice ad n cap) w3) ∧ w3.cell? ⟨nc, 2, none⟩ = some (.slice al c.lets.length cl) ∧ w3.frozen? ⟨nc, 2, none⟩ = false ∧ n = c.lets.length + 1 ∧ Hid (Sp w (w3.setCell ⟨nc, 2, none⟩ (.slice ad n cap)) (nc + 1) b nc mp s'.lets.2 (.slice ad n cap) (.slice aw c.words.length cw) (.slice ar c.redirs.length cr) { c with lets := c.lets ++ [s'.lets.1] } ∧ Blk (w3.setCell ⟨nc, 2, none⟩ (.slice ad n cap)) nb 33 #[.int .i64 0, .bool false, .slice none 0 0, .slice none 0 0, .slice none 0 0, .slice none 0 0, .string ⟨#[]⟩, .bool false, .slice none 0 0])) := hide (fun W hB => by
           have h5 := (uh H2).1.below hB
           have k5 := (uh H2).2.below hB (uh H2).2.lt
           refine (plet_any W b mp s' h5.pz h5.env hb (uh HLN)).mono ?_
           rintro e w' ⟨v, e1, e2, e3, e4⟩
           obtain ⟨adv, cv, hv, _⟩ := e2.len
           obtain ⟨ad, n, cap, w3, r1, r2, r3, r4⟩ := h5.addL' (x := s'.lets.1) e3 e4 e2 (by omega)
           subst hv
           have k6 := k5.grownS e4 (fun e => by have := (uh HNN).2.2; omega)
           have hnn : n = c.lets.length + 1 := by
            obtain ⟨css, o1, _⟩ := r3.rl
            obtain ⟨_, ⟨q1, q2⟩ | ⟨g, cp, cur, q1, _⟩⟩ := o1
            ·simp at q2
            ·cases q1
             simp
           exact ⟨adv, _, cv, ad, n, cap, w3, e1, (h5.step e3 e4).cb.cell 2 rfl, r1, r2.cell 2 rfl, r2.frozen 2, hnn, hide ⟨r3, (k6.grownS r4 (by have := (uh HNN).2.1; omega)).grownS (fr_set w3 nc 2 _) (by have := (uh HNN).2.1; omega)⟩⟩)
          clear HI
          go_wp2_with fail
          refine wp_region_held_drew (S := fun _ => True) (by kernel_rfl) trivial (fun hHeld => ?_)
          refine tk 0 (v := ?_) ?_ ?_
          rotate_left
          ·intro w hSw; (try dsimp only at hSw); go_simp; (try with_reducible rfl)
          go_frame
          refine tk 2 (v := ?_) ?_ ?_
          rotate_left
          ·intro w hSw; (try dsimp only at hSw); go_simp; (try with_reducible rfl)
          go_frame
          refine wpAnyH_ready (rs := [1, 3]) (by kernel_rfl) (by simp) ?_
          refine AllReadyH.cons rfl (fun KK hKK => ?_) (AllReadyH.cons rfl (fun KK hKK => ?_) AllReadyH.nil)
          focus
           go_simp
           refine hKK.out _ _ trivial (fun hHeld => ?_)
           clear hKK KK
           try go_frame
           refine rd1 3 (fun KK hKK => ?_)
           go_simp
           refine (uh HCT _ (by first | exact Below.refl _ _ | exact below_drew' _ _)).mono ?_
           rintro e w5 ⟨adv, nv, cv, ad, n, cap, w6, rfl, d4, hrun, d5, d6, HNE, HS6⟩
           have HRUN := hide hrun
           have HNX := hide HNE
           clear hrun HNE
           refine hKK.out _ _ trivial (fun hHeld => ?_)
           clear hKK KK
           try go_frame
           refine rd1 4 (fun KK hKK => ?_)
           go_simp
           have d4b : (w5.alloc (.cells #[.string (BA s'.lets.1.1), .slice adv nv cv] 51)).cell? ⟨nc, 2, none⟩ = some (.slice al c.lets.length cl) := cell_alloc d4 _
           refine hKK.out _ _ trivial (fun hHeld => ?_)
           clear hKK KK
           try go_frame
           refine rd1 5 (fun KK hKK => ?_)
           refine step_app_run (by rfl) _ _ _ (by rfl) _ _ _ (by simp [Act.eval]) (by simp [Act.eval]) (uh HRUN) ?_
           refine hKK.out _ _ trivial (fun hHeld => ?_)
           clear hKK KK
           try go_frame
           refine tk 6 (v := ?_) ?_ ?_
           rotate_left
           ·intro w hSw; (try dsimp only at hSw); go_simp; (try with_reducible rfl)
           go_frame
           refine rd1 7 (fun KK hKK => ?_)
           go_simp
           refine hKK.out _ _ trivial (fun hHeld => ?_)
           clear hKK KK
           try go_frame
           clear hHeld
           refine wpAnyH_done (by kernel_rfl) ?_ _
          rotate_left
          focus
           go_simp
           refine (uh HCT _ (by first | exact Below.refl _ _ | exact below_drew' _ _)).mono ?_
           rintro e w5 ⟨adv, nv, cv, ad, n, cap, w6, rfl, d4, hrun, d5, d6, HNE, HS6⟩
           have HRUN := hide hrun
           have HNX := hide HNE
           clear hrun HNE
           refine hKK.out _ _ trivial (fun hHeld => ?_)
           clear hKK KK
           try go_frame
           refine wpAnyH_ready (rs := [1, 4]) (by kernel_rfl) (by simp) ?_
           refine AllReadyH.cons rfl (fun KK hKK => ?_) (AllReadyH.cons rfl (fun KK hKK => ?_) AllReadyH.nil)
           focus
            go_simp
            refine hKK.out _ _ trivial (fun hHeld => ?_)
            clear hKK KK
            try go_frame
            refine rd1 4 (fun KK hKK => ?_)
            go_simp
            have d4b : (w5.alloc (.cells #[.string (BA s'.lets.1.1), .slice adv nv cv] 51)).cell? ⟨nc, 2, none⟩ = some (.slice al c.lets.length cl) := cell_alloc d4 _
            refine hKK.out _ _ trivial (fun hHeld => ?_)
            clear hKK KK
            try go_frame
            refine rd1 5 (fun KK hKK => ?_)
            refine step_app_run (by rfl) _ _ _ (by rfl) _ _ _ (by simp [Act.eval]) (by simp [Act.eval]) (uh HRUN) ?_
            refine hKK.out _ _ trivial (fun hHeld => ?_)
            clear hKK KK
            try go_frame
            refine tk 6 (v := ?_) ?_ ?_
            rotate_left
            ·intro w hSw; (try dsimp only at hSw); go_simp; (try with_reducible rfl)
            go_frame
            refine rd1 7 (fun KK hKK => ?_)
            go_simp
            refine hKK.out _ _ trivial (fun hHeld => ?_)
            clear hKK KK
            try go_frame
            clear hHeld
            refine wpAnyH_done (by kernel_rfl) ?_ _
           rotate_left
           focus
            go_simp
            have d4b : (w5.alloc (.cells #[.string (BA s'.lets.1.1), .slice adv nv cv] 51)).cell? ⟨nc, 2, none⟩ = some (.slice al c.lets.length cl) := cell_alloc d4 _
            refine hKK.out _ _ trivial (fun hHeld => ?_)
            clear hKK KK
            try go_frame
            refine rd1 1 (fun KK hKK => ?_)
            go_simp
            refine hKK.out _ _ trivial (fun hHeld => ?_)
            clear hKK KK
            try go_frame
            refine rd1 5 (fun KK hKK => ?_)
            refine step_app_run (by rfl) _ _ _ (by rfl) _ _ _ (by simp [Act.eval]) (by simp [Act.eval]) (uh HRUN) ?_
            refine hKK.out _ _ trivial (fun hHeld => ?_)
            clear hKK KK
            try go_frame
            refine tk 6 (v := ?_) ?_ ?_
            rotate_left
            ·intro w hSw; (try dsimp only at hSw); go_simp; (try with_reducible rfl)
            go_frame
            refine rd1 7 (fun KK hKK => ?_)
            go_simp
            refine hKK.out _ _ trivial (fun hHeld => ?_)
            clear hKK KK
            try go_frame
            clear hHeld
            refine wpAnyH_done (by kernel_rfl) ?_ _
           rotate_left
          rotate_left 2
          all_goals
           clear d4 d4b d5 d6 HCT HRUN
           go_wp2_with fail
           go_roundg m
           case measure => omega
           case rel => exact ⟨s'.lets.2, { c with lets := c.lets ++ [s'.lets.1] }, _, _, _, _, _, _, uh HLS, by simp; omega, by simp; omega, by simp; omega, hide ⟨uh HE, by rw [show ({ c with lets := c.lets ++ [s'.lets.1] } : Pz.Smp).lets.length = n by rw [uh HNX]; simp]; exact (uh HS6).1, (uh HS6).2⟩⟩
      | false =>
        have HSW := hide (pseesWord_any wc b mp s' (uh H3).1.pz)
        cases hsw : s'.seesWord with
        | true =>
          rw [hsw] at HSW
          cases gk with
          | zero =>
            have h0 : s'.toks = [] := List.eq_nil_of_length_eq_zero (by omega)
            exact absurd hsw (by unfold Pz.seesWord Pz.next; rw [h0]; decide)
          | succ m =>
            have HE : Hid (R = smpR (Pz.simpleN m { c with words := c.words ++ [s'.word.1] } s'.word.2)) := hide (by
             rw [(uh HI).1, Pz.simpleN, uh HNR, ← uh HLB, hsw]
             rfl)
            have HLS := hide (word_less hg)
            clear hsw HLB HNR
            go_wp2_with fail
            refine (uh HSW).mono ?_
            rintro e w2 ⟨rfl, b2⟩
            have H2 := hide (And.intro ((uh H3).1.below b2) ((uh H3).2.below b2 (uh H3).2.lt))
            clear b2 HSW H3
            have c4 : w2.cell? ⟨nc, 3, none⟩ = some (.slice aw c.words.length cw) := (uh H2).1.cb.cell 3 rfl
            have HCT : Hid (∀ W, Below w2.heap.size w2 W → Calls Tryz.prog 63 #[.pointer (some ⟨b, 0, none⟩)] W fun e w' => ∃ adv nv cv ad n cap w3, e = .returned (.slice adv nv cv) ∧ w'.cell? ⟨nc, 3, none⟩ = some (.slice aw c.words.length cw) ∧ (∀ ty, (Builtin.append_ #[29, 29] ty #[.slice aw c.words.length cw, .slice (some ⟨w'.heap.size, 0, none⟩) 1 1]).run Tryz.prog (w'.alloc (.cells #[.slice adv nv cv] 36)) = .ok (.slice ad n cap) w3) ∧ w3.cell? ⟨nc, 3, none⟩ = some (.slice aw c.words.length cw) ∧ w3.frozen? ⟨nc, 3, none⟩ = false ∧ n = c.words.length + 1 ∧ Hid (Sp w (w3.setCell ⟨nc, 3, none⟩ (.slice ad n cap)) (nc + 1) b nc mp s'.word.2 (.slice al c.lets.length cl) (.slice ad n cap) (.slice ar c.redirs.length cr) { c with words := c.words ++ [s'.word.1] } ∧ Blk (w3.setCell ⟨nc, 3, none⟩ (.slice ad n cap)) nb 33 #[.int .i64 0, .bool false, .slice none 0 0, .slice none 0 0, .slice none 0 0, .slice none 0 0, .string ⟨#[]⟩, .bool false, .slice none 0 0])) := hide (fun W hB => by
             have h5 := (uh H2).1.below hB
             have k5 := (uh H2).2.below hB (uh H2).2.lt
             refine (pword_any W b mp s' h5.pz h5.env.1 hb).mono ?_
             rintro e w' ⟨v, e1, e2, e3, e4⟩
             obtain ⟨adv, cv, hv, _⟩ := e2.len
             obtain ⟨ad, n, cap, w3, r1, r2, r3, r4⟩ := h5.addW' (x := s'.word.1) e3 e4 e2 (by omega)
             subst hv
             have k6 := k5.grownS e4 (fun e => by have := (uh HNN).2.2; omega)
             have hnn : n = c.words.length + 1 := by
              obtain ⟨css, o1, _⟩ := r3.rw
              obtain ⟨_, ⟨q1, q2⟩ | ⟨g, cp, cur, q1, _⟩⟩ := o1
              ·simp at q2
              ·cases q1
               simp
             exact ⟨adv, _, cv, ad, n, cap, w3, e1, (h5.step e3 e4).cb.cell 3 rfl, r1, r2.cell 3 rfl, r2.frozen 3, hnn, hide ⟨r3, (k6.grownS r4 (by have := (uh HNN).2.1; omega)).grownS (fr_set w3 nc 3 _) (by have := (uh HNN).2.1; omega)⟩⟩)
            clear HI
            go_wp2_with fail
            refine wp_region_held_drew (S := fun _ => True) (by kernel_rfl) trivial (fun hHeld => ?_)
            refine tk 0 (v := ?_) ?_ ?_
            rotate_left
            ·intro w hSw; (try dsimp only at hSw); go_simp; (try with_reducible rfl)
            go_frame
            refine tk 2 (v := ?_) ?_ ?_
            rotate_left
            ·intro w hSw; (try dsimp only at hSw); go_simp; (try with_reducible rfl)
            go_frame
            refine wpAnyH_ready (rs := [1, 3]) (by kernel_rfl) (by simp) ?_
            refine AllReadyH.cons rfl (fun KK hKK => ?_) (AllReadyH.cons rfl (fun KK hKK => ?_) AllReadyH.nil)
            focus
             go_simp
             refine hKK.out _ _ trivial (fun hHeld => ?_)
             clear hKK KK
             try go_frame
             refine rd1 3 (fun KK hKK => ?_)
             go_simp
             refine (uh HCT _ (by first | exact Below.refl _ _ | exact below_drew' _ _)).mono ?_
             rintro e w5 ⟨adv, nv, cv, ad, n, cap, w6, rfl, d4, hrun, d5, d6, HNE, HS6⟩
             have HRUN := hide hrun
             have HNX := hide HNE
             clear hrun HNE
             refine hKK.out _ _ trivial (fun hHeld => ?_)
             clear hKK KK
             try go_frame
             refine rd1 4 (fun KK hKK => ?_)
             go_simp
             have d4b : (w5.alloc (.cells #[.slice adv nv cv] 36)).cell? ⟨nc, 3, none⟩ = some (.slice aw c.words.length cw) := cell_alloc d4 _
             refine hKK.out _ _ trivial (fun hHeld => ?_)
             clear hKK KK
             try go_frame
             refine rd1 5 (fun KK hKK => ?_)
             refine step_app_run (by rfl) _ _ _ (by rfl) _ _ _ (by simp [Act.eval]) (by simp [Act.eval]) (uh HRUN) ?_
             refine hKK.out _ _ trivial (fun hHeld => ?_)
             clear hKK KK
             try go_frame
             refine tk 6 (v := ?_) ?_ ?_
             rotate_left
             ·intro w hSw; (try dsimp only at hSw); go_simp; (try with_reducible rfl)
             go_frame
             refine rd1 7 (fun KK hKK => ?_)
             go_simp
             refine hKK.out _ _ trivial (fun hHeld => ?_)
             clear hKK KK
             try go_frame
             clear hHeld
             refine wpAnyH_done (by kernel_rfl) ?_ _
            rotate_left
            focus
             go_simp
             refine (uh HCT _ (by first | exact Below.refl _ _ | exact below_drew' _ _)).mono ?_
             rintro e w5 ⟨adv, nv, cv, ad, n, cap, w6, rfl, d4, hrun, d5, d6, HNE, HS6⟩
             have HRUN := hide hrun
             have HNX := hide HNE
             clear hrun HNE
             refine hKK.out _ _ trivial (fun hHeld => ?_)
             clear hKK KK
             try go_frame
             refine wpAnyH_ready (rs := [1, 4]) (by kernel_rfl) (by simp) ?_
             refine AllReadyH.cons rfl (fun KK hKK => ?_) (AllReadyH.cons rfl (fun KK hKK => ?_) AllReadyH.nil)
             focus
              go_simp
              refine hKK.out _ _ trivial (fun hHeld => ?_)
              clear hKK KK
              try go_frame
              refine rd1 4 (fun KK hKK => ?_)
              go_simp
              have d4b : (w5.alloc (.cells #[.slice adv nv cv] 36)).cell? ⟨nc, 3, none⟩ = some (.slice aw c.words.length cw) := cell_alloc d4 _
              refine hKK.out _ _ trivial (fun hHeld => ?_)
              clear hKK KK
              try go_frame
              refine rd1 5 (fun KK hKK => ?_)
              refine step_app_run (by rfl) _ _ _ (by rfl) _ _ _ (by simp [Act.eval]) (by simp [Act.eval]) (uh HRUN) ?_
              refine hKK.out _ _ trivial (fun hHeld => ?_)
              clear hKK KK
              try go_frame
              refine tk 6 (v := ?_) ?_ ?_
              rotate_left
              ·intro w hSw; (try dsimp only at hSw); go_simp; (try with_reducible rfl)
              go_frame
              refine rd1 7 (fun KK hKK => ?_)
              go_simp
              refine hKK.out _ _ trivial (fun hHeld => ?_)
              clear hKK KK
              try go_frame
              clear hHeld
              refine wpAnyH_done (by kernel_rfl) ?_ _
             rotate_left
             focus
              go_simp
              have d4b : (w5.alloc (.cells #[.slice adv nv cv] 36)).cell? ⟨nc, 3, none⟩ = some (.slice aw c.words.length cw) := cell_alloc d4 _
              refine hKK.out _ _ trivial (fun hHeld => ?_)
              clear hKK KK
              try go_frame
              refine rd1 1 (fun KK hKK => ?_)
              go_simp
              refine hKK.out _ _ trivial (fun hHeld => ?_)
              clear hKK KK
              try go_frame
              refine rd1 5 (fun KK hKK => ?_)
              refine step_app_run (by rfl) _ _ _ (by rfl) _ _ _ (by simp [Act.eval]) (by simp [Act.eval]) (uh HRUN) ?_
              refine hKK.out _ _ trivial (fun hHeld => ?_)
              clear hKK KK
              try go_frame
              refine tk 6 (v := ?_) ?_ ?_
              rotate_left
              ·intro w hSw; (try dsimp only at hSw); go_simp; (try with_reducible rfl)
              go_frame
              refine rd1 7 (fun KK hKK => ?_)
              go_simp
              refine hKK.out _ _ trivial (fun hHeld => ?_)
              clear hKK KK
              try go_frame
              clear hHeld
              refine wpAnyH_done (by kernel_rfl) ?_ _
             rotate_left
            rotate_left 2
            all_goals
             clear d4 d4b d5 d6 HCT HRUN
             go_wp2_with fail
             go_roundg m
             case measure => omega
             case rel => exact ⟨s'.word.2, { c with words := c.words ++ [s'.word.1] }, _, _, _, _, _, _, uh HLS, by simp; omega, by simp; omega, by simp; omega, hide ⟨uh HE, by rw [show ({ c with words := c.words ++ [s'.word.1] } : Pz.Smp).words.length = n by rw [uh HNX]; simp]; exact (uh HS6).1, (uh HS6).2⟩⟩
        | false =>
          rw [hsw] at HSW
          have HE : Hid (R = smpR (c, s')) := hide (by
           rw [(uh HI).1]
           cases gk with
           | zero => rfl
           | succ m =>
             rw [Pz.simpleN, uh HNR, ← uh HLB, hsw]
             rfl)
          clear hsw HLB HNR HI
          go_wp2_with fail
          refine (uh HSW).mono ?_
          rintro e w4 ⟨rfl, b4⟩
          have H4 := hide (And.intro ((uh H3).1.below b4) ((uh H3).2.below b4 (uh H3).2.lt))
          clear b4 HSW H3
          have HEND := hide ((uh H4).1.fin (uh H4).2 (uh HNN).1 (uh HNN).2.1 (uh HNN).2.2)
          obtain ⟨c0, c1, c2, c3, c4, c5, c6, c7, c8⟩ := cel9 (uh H4).1.cb
          obtain ⟨z0, z1, z2, z3, z4, z5, z6, z7, z8⟩ := cel9 (uh H4).2
          have zf : ∀ i, w4.frozen? ⟨nb, i, none⟩ = false := fun i => (uh H4).2.frozen i
          clear H4
          go_wp2
          refine bodyPost_ret (results_cell_row (P := Tryz.prog) rfl _ _ nb 33 _ (0, 0) _ rfl (uh HEND).1 Tryz.underlying33 rfl (by kernel_rfl)) rfl ⟨_, _, _, _, nb, rfl, by rw [uh HE]; exact uh HEND, by rw [uh HE]; rfl⟩
end Go.Proofs.YtojjfdobilkknaaGreatDoor
namespace Go.Proofs.YtojjfdobilkknaaGreatDoor
open Go.RowKit Go.Maps
structure CV where
 k : Int
 no : Bool
 al : Option Addr
 nl : Nat
 cl : Nat
 aw : Option Addr
 nw : Nat
 cw : Nat
 ar : Option Addr
 nr : Nat
 cr : Nat
 ac : Option Addr
 nc : Nat
 cc : Nat
 nm : List UInt8
 ev : Bool
 ai : Option Addr
 ni : Nat
 ci : Nat
abbrev CC (W : World) (g i : Nat) (x : CV) : Prop := W.cell? ⟨g, i * 9, none⟩ = some (.int .i64 x.k) ∧ W.cell? ⟨g, i * 9 + 1, none⟩ = some (.bool x.no) ∧ W.cell? ⟨g, i * 9 + 2, none⟩ = some (.slice x.al x.nl x.cl) ∧ W.cell? ⟨g, i * 9 + 3, none⟩ = some (.slice x.aw x.nw x.cw) ∧ W.cell? ⟨g, i * 9 + 4, none⟩ = some (.slice x.ar x.nr x.cr) ∧ W.cell? ⟨g, i * 9 + 5, none⟩ = some (.slice x.ac x.nc x.cc) ∧ W.cell? ⟨g, i * 9 + 6, none⟩ = some (.string (BA x.nm)) ∧ W.cell? ⟨g, i * 9 + 7, none⟩ = some (.bool x.ev) ∧ W.cell? ⟨g, i * 9 + 8, none⟩ = some (.slice x.ai x.ni x.ci)
theorem CC.of {w W : World} {g i : Nat} {x : CV} (h : Below w.heap.size w W) (hg : g < w.heap.size) (c : CC w g i x) : CC W g i x := ⟨(h.cell hg).trans c.1, (h.cell hg).trans c.2.1, (h.cell hg).trans c.2.2.1, (h.cell hg).trans c.2.2.2.1, (h.cell hg).trans c.2.2.2.2.1, (h.cell hg).trans c.2.2.2.2.2.1, (h.cell hg).trans c.2.2.2.2.2.2.1, (h.cell hg).trans c.2.2.2.2.2.2.2.1, (h.cell hg).trans c.2.2.2.2.2.2.2.2⟩
def CV.l (x : CV) : List Value := [.int .i64 x.k, .bool x.no, .slice x.al x.nl x.cl, .slice x.aw x.nw x.cw, .slice x.ar x.nr x.cr, .slice x.ac x.nc x.cc, .string (BA x.nm), .bool x.ev, .slice x.ai x.ni x.ci]
theorem CmAt.cv {w : World} {A : Nat → Prop} {c : Cm} {cs : List Value} (h : CmAt w A c cs) : ∃ x : CV, cs = x.l := by
 obtain ⟨k, no, lets, words, redirs, cmds, name, ev, items⟩ := c
 obtain ⟨vl, vw, vr, vc, vi, rfl, ⟨al, cl, rfl, _⟩, ⟨aw, cw, rfl, _⟩, ⟨ar, cr, rfl, _⟩, ⟨ac, cc, rfl, _⟩, ⟨ai, ci, rfl, _⟩⟩ := h.rows
 exact ⟨⟨k, no, al, _, cl, aw, _, cw, ar, _, cr, ac, _, cc, name, ev, ai, _, ci⟩, rfl⟩
structure Got (W w' : World) (b : Nat) (mp : Value) (r : Cm × Pz) (x : CV) : Prop where
 cm : CmAt w' (New W w') r.1 x.l
 pz : PzAt w' b mp r.2
 fr : Fr W w' b
def Reads (k : Nat) (b : Nat) (mp : Value) (r : Pz → Cm × Pz) (W : World) (s : Pz) : Prop := Calls Tryz.prog k #[.pointer (some ⟨b, 0, none⟩)] W fun e w' => ∃ x : CV, e = .returned (.agg #[.int .i64 x.k, .bool x.no, .slice x.al x.nl x.cl, .slice x.aw x.nw x.cw, .slice x.ar x.nr x.cr, .slice x.ac x.nc x.cc, .string (BA x.nm), .bool x.ev, .slice x.ai x.ni x.ci]) ∧ Hid (Got W w' b mp (r s) x)
def L9 (w : World) (g : Nat) (a0 a1 a2 a3 a4 a5 a6 a7 a8 : Value) : World := ((((((((w.setCell ⟨g, 0, none⟩ a0).setCell ⟨g, 1, none⟩ a1).setCell ⟨g, 2, none⟩ a2).setCell ⟨g, 3, none⟩ a3).setCell ⟨g, 4, none⟩ a4).setCell ⟨g, 5, none⟩ a5).setCell ⟨g, 6, none⟩ a6).setCell ⟨g, 7, none⟩ a7).setCell ⟨g, 8, none⟩ a8
theorem L9_blk {w : World} {g : Nat} {x0 x1 x2 x3 x4 x5 x6 x7 x8 : Value} (h : Blk w g 33 #[x0, x1, x2, x3, x4, x5, x6, x7, x8]) (a0 a1 a2 a3 a4 a5 a6 a7 a8 : Value) : Blk (L9 w g a0 a1 a2 a3 a4 a5 a6 a7 a8) g 33 #[a0, a1, a2, a3, a4, a5, a6, a7, a8] := by
 have h1 := ((((((((h.set 0 a0).set 1 a1).set 2 a2).set 3 a3).set 4 a4).set 5 a5).set 6 a6).set 7 a7).set 8 a8
 simp only [List.setIfInBounds_toArray, List.set_cons_zero, List.set_cons_succ] at h1
 exact h1
theorem L9_grown (w : World) (g : Nat) (a0 a1 a2 a3 a4 a5 a6 a7 a8 : Value) : GrownS w (L9 w g a0 a1 a2 a3 a4 a5 a6 a7 a8) (fun k => k = g) := ((((((((fr_set w g 0 _).trans (fr_set _ g 1 _)).trans (fr_set _ g 2 _)).trans (fr_set _ g 3 _)).trans (fr_set _ g 4 _)).trans (fr_set _ g 5 _)).trans (fr_set _ g 6 _)).trans (fr_set _ g 7 _)).trans (fr_set _ g 8 _)
def z9 : Array Value := #[.int .i64 0, .bool false, .slice none 0 0, .slice none 0 0, .slice none 0 0, .slice none 0 0, .string ⟨#[]⟩, .bool false, .slice none 0 0]
theorem rs_begin {w : World} {b : Nat} {mp : Value} {s : Pz} (H : PzAt w b mp s) (he : PEnv w) (hb : 7 ≤ b) : RS w (w.alloc (.cells #[.int .i64 0, .bool false, .slice none 0 0, .slice none 0 0, .slice none 0 0, .slice none 0 0, .string ⟨#[]⟩, .bool false, .slice none 0 0] 33)) b w.heap.size mp 33 #[.int .i64 0, .bool false, .slice none 0 0, .slice none 0 0, .slice none 0 0, .slice none 0 0, .string ⟨#[]⟩, .bool false, .slice none 0 0] s := by
 have hb1 : Below w.heap.size w (w.alloc (.cells #[.int .i64 0, .bool false, .slice none 0 0, .slice none 0 0, .slice none 0 0, .slice none 0 0, .string ⟨#[]⟩, .bool false, .slice none 0 0] 33)) := (Below.refl _ w).alloc (ler _) _
 exact ⟨fr_below hb1, Blk.new _ _ _, H.below hb1, he.below hb1, ler _, H.lt, hb⟩
theorem RS.fin {w W : World} {b nb : Nat} {mp : Value} {x0 x1 x2 x3 x4 x5 x6 x7 x8 : Value} {s : Pz} (h : RS w W b nb mp 33 #[x0, x1, x2, x3, x4, x5, x6, x7, x8] s) {c : Cm} {x : CV} {A : Nat → Prop} (hc : CmAt W A c x.l) (hA : ∀ k, A k → w.heap.size ≤ k ∧ k < W.heap.size ∧ k ≠ nb) : Blk (L9 W nb (.int .i64 x.k) (.bool x.no) (.slice x.al x.nl x.cl) (.slice x.aw x.nw x.cw) (.slice x.ar x.nr x.cr) (.slice x.ac x.nc x.cc) (.string (BA x.nm)) (.bool x.ev) (.slice x.ai x.ni x.ci)) nb 33 #[.int .i64 x.k, .bool x.no, .slice x.al x.nl x.cl, .slice x.aw x.nw x.cw, .slice x.ar x.nr x.cr, .slice x.ac x.nc x.cc, .string (BA x.nm), .bool x.ev, .slice x.ai x.ni x.ci] ∧ Got w (L9 W nb (.int .i64 x.k) (.bool x.no) (.slice x.al x.nl x.cl) (.slice x.aw x.nw x.cw) (.slice x.ar x.nr x.cr) (.slice x.ac x.nc x.cc) (.string (BA x.nm)) (.bool x.ev) (.slice x.ai x.ni x.ci)) b mp (c, s) x := by
 have g := L9_grown W nb (.int .i64 x.k) (.bool x.no) (.slice x.al x.nl x.cl) (.slice x.aw x.nw x.cw) (.slice x.ar x.nr x.cr) (.slice x.ac x.nc x.cc) (.string (BA x.nm)) (.bool x.ev) (.slice x.ai x.ni x.ci)
 have hlt := h.lt
 refine ⟨L9_blk h.res _ _ _ _ _ _ _ _ _, hc.kept (fun k hk => g.block k (hA k hk).2.1 (hA k hk).2.2) (fun k hk => ⟨(hA k hk).1, lle (hA k hk).2.1 g.size⟩), h.pz.grownS g (fun k e => by omega), ?_⟩
 exact ((leg_fr h.fr).trans (leg_new g h.new)).fr
theorem new_ne {w W W' : World} {nb : Nat} (h1 : w.heap.size ≤ W.heap.size) (h2 : nb < W.heap.size) : ∀ k, New W W' k → w.heap.size ≤ k ∧ k < W'.heap.size ∧ k ≠ nb := fun k hk => ⟨lee h1 hk.1, hk.2, by have := hk.1; omega⟩
theorem psimple_rd (w : World) (b : Nat) (mp : Value) (s : Pz) (H : PzAt w b mp s) (he : PEnv w) (hb : 7 ≤ b) : Reads 103 b mp Pz.simple w s := by
 refine (psimple_any w b mp s H he hb).mono ?_
 rintro e w' ⟨vl, vw, vr, c, nb, rfl, ⟨_, h2, h3, h4, h5, h6⟩, h7⟩
 have hcm : CmAt w' (New w w') s.simple.1 [.int .i64 1, .bool false, vl, vw, vr, .slice none 0 0, .string (BA []), .bool false, .slice none 0 0] := by
  rw [h7]
  exact CmAt.of h2 h3 h4 ⟨none, 0, rfl, .inl rfl⟩ ⟨none, 0, rfl, .inl rfl⟩
 obtain ⟨al, cl, rfl, _⟩ := h2
 obtain ⟨aw, cw, rfl, _⟩ := h3
 obtain ⟨ar, cr, rfl, _⟩ := h4
 exact ⟨⟨1, false, al, _, cl, aw, _, cw, ar, _, cr, none, 0, 0, [], false, none, 0, 0⟩, rfl, hide ⟨hcm, h5, h6⟩⟩
def bgV (t : List UInt8) : Value := if t = [40] then .func (.func 32) #[] #[] else if t = [123] then .func (.func 33) #[] #[] else if t = [105, 102] then .func (.func 34) #[] #[] else if t = [119, 104, 105, 108, 101] then .func (.func 35) #[] #[] else if t = [117, 110, 116, 105, 108] then .func (.func 36) #[] #[] else if t = [102, 111, 114] then .func (.func 37) #[] #[] else if t = [99, 97, 115, 101] then .func (.func 38) #[] #[] else .nilFunc
def selfV : Value → Option (DataW Value × List MemPlace) := fun v => some (.held v, [])
def MpAt (w : World) (b : Nat) (mp : Value) : Prop := ∃ (mb n : Nat) (D : DataW Value), mp = .map (some mb) ∧ mb < b ∧ b ≤ w.heap.size ∧ w.ownsMap Tryz.prog 9 selfV mb n D ∧ ∀ t : List UInt8, D.atKey (.string t) (.held .nilFunc) = .held (bgV t)
theorem MpAt.fr {w w' : World} {b : Nat} {mp : Value} (h : MpAt w b mp) (hf : Fr w w' b) : MpAt w' b mp := by
 obtain ⟨mb, n, D, h1, h2, h3, ⟨es, clock, h4, r⟩, h5⟩ := h
 exact ⟨mb, n, D, h1, h2, lee h3 hf.size, ⟨es, clock, (hf.block mb (by omega) (by omega)).trans h4, r⟩, h5⟩
theorem cm0_at (w : World) (A : Nat → Prop) : CmAt w A cm0 (CV.l ⟨0, false, none, 0, 0, none, 0, 0, none, 0, 0, none, 0, 0, [], false, none, 0, 0⟩) := CmAt.of ⟨none, 0, rfl, .inl rfl⟩ ⟨none, 0, rfl, .inl rfl⟩ ⟨none, 0, rfl, .inl rfl⟩ ⟨none, 0, rfl, .inl rfl⟩ ⟨none, 0, rfl, .inl rfl⟩
end Go.Proofs.YtojjfdobilkknaaGreatDoor

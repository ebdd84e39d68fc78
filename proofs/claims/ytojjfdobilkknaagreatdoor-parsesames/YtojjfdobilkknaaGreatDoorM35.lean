/- The chapter's examples ('awake'): it answers true and writes nothing that was there. And what a command's cells hold.; THE FRAME OF A LAW: from 'the call returns true and writes nothing that was there' to the row's step, over any program; the world's shape and what the listed variables hold are handed to the walk.; What the listed tables and the world's shape give the walks ('WEnv'), and the parts of the frame that all laws of this seat share. -/
import Derived.Test.YtojjfdobilkknaaGreatDoorM34
import Derived.WalkKit
import Derived.ProofKit
import Derived.OpenShut
import Derived.Below
import Derived.LaidMore
import Derived.Lay
import Derived.SevenTiedAt
import Derived.Stop.Joined
import Derived.Test.YtojjfdobilkknaaGreatDoorTie
import Derived.Test.YtojjfdobilkknaaGreatDoorCards
import Derived.Stop.LaidErr
import Derived.Lib.LaidTab
import Derived.Lib.SmallJoins
import Derived.Deep.Strs
import Derived.ChangeMaps5
set_option maxRecDepth 20000
set_option maxHeartbeats 8000000
namespace Go.Proofs.YtojjfdobilkknaaGreatDoor
open Go.RowKit
def Cm.no : Cm → Bool
 | .mk _ n _ _ _ _ _ _ _ => n
def Cm.lets : Cm → List (List UInt8 × Wd)
 | .mk _ _ l _ _ _ _ _ _ => l
def Cm.words : Cm → List Wd
 | .mk _ _ _ w _ _ _ _ _ => w
def Cm.cmds : Cm → List Cm
 | .mk _ _ _ _ _ c _ _ _ => c
def Cm.name : Cm → List UInt8
 | .mk _ _ _ _ _ _ m _ _ => m
def Cm.every : Cm → Bool
 | .mk _ _ _ _ _ _ _ e _ => e
def Cm.items : Cm → List (List Wd × List Cm)
 | .mk _ _ _ _ _ _ _ _ i => i
theorem CmAt.view {w : World} {A : Nat → Prop} {c : Cm} {cs : List Value} (h : CmAt w A c cs) : ∃ vl vw vr vc vi, cs = [.int .i64 c.kind, .bool c.no, vl, vw, vr, vc, .string (BA c.name), .bool c.every, vi] ∧ RowAt Kl w A vl c.lets ∧ RowAt Kw w A vw c.words ∧ RowAt Kr w A vr c.redirs ∧ RowAt Kc w A vc c.cmds ∧ RowAt Ki w A vi c.items := by
 cases c with
 | mk k no lets words redirs cmds name ev items => exact h.rows
theorem RowAt.slice {α : Type} {K : Kd α} {w : World} {A : Nat → Prop} {v : Value} {l : List α} (h : RowAt K w A v l) : ∃ ad cap, v = .slice ad l.length cap := by
 obtain ⟨ad, cap, h1, _⟩ := h
 exact ⟨ad, cap, h1⟩
theorem RowAt.el {α : Type} {K : Kd α} {w : World} {A : Nat → Prop} {v : Value} {l : List α} (h : RowAt K w A v l) (hl : 0 < l.length) : ∃ g cap, v = .slice (some ⟨g, 0, none⟩) l.length cap ∧ A g ∧ ∀ (i : Nat) (x : α), l[i]? = some x → ∃ cs, K.rel w A x cs ∧ ∀ (j : Nat) (u : Value), cs[j]? = some u → w.cell? ⟨g, i * K.sz + j, none⟩ = some u := by
 obtain ⟨ad, cap, h1, rfl | ⟨g, cur, rfl, h4, h5, h6⟩⟩ := h
 ·exact absurd hl (by simp)
 ·refine ⟨g, cap, h1, h4, fun i x hx => ?_⟩
  obtain ⟨cs, c1, c2⟩ := h6 i x hx
  exact ⟨cs, c1, fun j u hj => h5.cell _ (c2 j u hj)⟩
theorem RowAt.cmd {w : World} {A : Nat → Prop} {v : Value} {l : List Cm} (h : RowAt Kc w A v l) (hl : 0 < l.length) : ∃ g cap, v = .slice (some ⟨g, 0, none⟩) l.length cap ∧ A g ∧ ∀ (i : Nat) (c : Cm), l[i]? = some c → ∃ cs, CmAt w A c cs ∧ ∀ (j : Nat) (u : Value), cs[j]? = some u → w.cell? ⟨g, i * 9 + j, none⟩ = some u := h.el hl
structure AEnv (w : World) : Prop where
 pe : PEnv w
 ops : OpsAt w
theorem OpsAt.new {w w1 : World} (h : OpsAt w) (hb : Below w.heap.size w w1) (h0 : 0 < w.heap.size) : OpsAt w1 :=
 ⟨(hb.cell h0).trans h.at0, (hb.cell h0).trans h.at1, (hb.cell h0).trans h.at2, (hb.cell h0).trans h.at3, (hb.cell h0).trans h.at4, (hb.cell h0).trans h.at5, (hb.cell h0).trans h.at6, (hb.cell h0).trans h.at7, (hb.cell h0).trans h.at8, (hb.cell h0).trans h.at9, (hb.cell h0).trans h.at10, (hb.cell h0).trans h.at11, (hb.cell h0).trans h.at12, (hb.cell h0).trans h.at13, (hb.cell h0).trans h.at14, (hb.cell h0).trans h.at15⟩
theorem AEnv.below {w w1 : World} (h : AEnv w) (hb : Below w.heap.size w w1) : AEnv w1 :=
 ⟨h.pe.below hb, h.ops.new hb (by have := h.pe.we.two; omega)⟩
theorem parse_env (l : List UInt8) (w : World) (hl : l.length ≤ 4096) (he : AEnv w) : Calls Tryz.prog 5 #[.string (BA l)] w fun e w' => ∃ ad n cap, e = .returned (.tuple #[.slice ad n cap, .int .i64 (prsL l).2.1, .int .i64 (prsL l).2.2]) ∧ Hid (Below w.heap.size w w' ∧ RowAt Kc w' (New w w') (.slice ad n cap) (prsL l).1) := by
 obtain ⟨m, hm⟩ := he.pe.we.max
 exact pparse_any l m w hl he.pe he.ops hm
theorem parse_ex (l : List UInt8) (at' e' : Int) (s : ByteArray) (hs : BA l = s) (hr : (prsL l).2 = (at', e')) (w : World) (hl : l.length ≤ 4096) (he : AEnv w) : Calls Tryz.prog 5 #[.string s] w fun e w' => ∃ ad n cap, e = .returned (.tuple #[.slice ad n cap, .int .i64 at', .int .i64 e']) ∧ Hid (Below w.heap.size w w' ∧ RowAt Kc w' (New w w') (.slice ad n cap) (prsL l).1) := by
 have := parse_env l w hl he
 rw [hr, hs] at this
 exact this
def px1 : List UInt8 := [97, 32, 98, 59, 32, 33, 32, 99, 32, 124, 32, 100]
def px2 : List UInt8 := [120, 61, 49, 32, 97, 32, 62, 102, 32, 50, 62, 38, 49]
def px3 : List UInt8 := [97, 10, 98, 32, 41]
def px4 : List UInt8 := [105, 102, 32, 97]
def px5 : List UInt8 := [105, 102, 32, 97, 59, 32, 116, 104, 101, 110, 32, 98, 59, 32, 102, 105]
theorem pr1 : (prsL px1).2 = (0, 0) := by decide +kernel
theorem pr2 : (prsL px2).2 = (0, 0) := by decide +kernel
theorem pr3 : (prsL px3).2 = (4, 10) := by decide +kernel
theorem pr4 : (prsL px4).2 = (4, 10) := by decide +kernel
theorem pr5 : (prsL px5).2 = (0, 0) := by decide +kernel
theorem pn1 : (prsL px1).1.length = 1 := by decide +kernel
theorem pn2 : (prsL px2).1.length = 1 := by decide +kernel
theorem pn3 : (prsL px3).1.length = 1 := by decide +kernel
theorem pn5 : (prsL px5).1.length = 1 := by decide +kernel
theorem pv1 : ((prsL px1).1[0]?).map (fun c => (c.kind, c.cmds.length, (c.cmds[1]?).map Cm.no)) = some (5, 2, some true) := by decide +kernel
theorem pv2 : ((prsL px2).1[0]?).map (fun c => (c.lets.length, c.redirs.length, (c.redirs[1]?).map (·.1))) = some (1, 2, some 2) := by decide +kernel
theorem pv5 : ((prsL px5).1[0]?).map (fun c => (c.kind, c.cmds.length)) = some (8, 2) := by decide +kernel
theorem awake6_any (w : World) (he : AEnv w) : Calls Tryz.prog 4 #[] w fun e w' => e = .returned (.bool true) ∧ Below w.heap.size w w' := by
 have HE0 := hide he
 clear he
 go_enter Tryz.func4, Tryz.ntmps4
 go_wp2_with fail
 refine (parse_ex px1 0 0 _ rfl pr1 w (by decide) (uh HE0)).mono ?_
 rintro e w1 ⟨ad1, n1, cap1, rfl, h1⟩
 have HE1 := hide ((uh HE0).below (uh h1).1)
 go_wp2_with fail
 refine (parse_ex px2 0 0 _ rfl pr2 w1 (by decide) (uh HE1)).mono ?_
 rintro e w2 ⟨ad2, n2, cap2, rfl, h2⟩
 have HE2 := hide ((uh HE1).below (uh h2).1)
 go_wp2_with fail
 refine (parse_ex px3 4 10 _ rfl pr3 w2 (by decide) (uh HE2)).mono ?_
 rintro e w3 ⟨ad3, n3, cap3, rfl, h3⟩
 have HE3 := hide ((uh HE2).below (uh h3).1)
 go_wp2_with fail
 refine (parse_ex px4 4 10 _ rfl pr4 w3 (by decide) (uh HE3)).mono ?_
 rintro e w4 ⟨ad4, n4, cap4, rfl, h4⟩
 have HE4 := hide ((uh HE3).below (uh h4).1)
 go_wp2_with fail
 refine (parse_ex px5 0 0 _ rfl pr5 w4 (by decide) (uh HE4)).mono ?_
 rintro e w5 ⟨ad5, n5, cap5, rfl, h5⟩
 have HB : Hid (Below w.heap.size w w5) := hide (by
  have q1 := (uh h1).1
  have q2 := (uh h2).1
  have q3 := (uh h3).1
  have q4 := (uh h4).1
  have q5 := (uh h5).1
  have s1 := q1.size
  have s2 := q2.size
  have s3 := q3.size
  have s4 := q4.size
  exact q1.trans ((q2.mono (by omega)).trans ((q3.mono (by omega)).trans ((q4.mono (by omega)).trans (q5.mono (by omega))))))
 have r1 : RowAt Kc w5 (New w w1) (.slice ad1 n1 cap1) (prsL px1).1 := (uh h1).2.kept (fun k hk => by
  have q2 := (uh h2).1
  have q3 := (uh h3).1
  have q4 := (uh h4).1
  have q5 := (uh h5).1
  have s2 := q2.size
  have s3 := q3.size
  have s4 := q4.size
  have := hk.2
  exact (q5.block k (by omega)).trans ((q4.block k (by omega)).trans ((q3.block k (by omega)).trans (q2.block k (by omega))))) (fun _ h => h)
 have r2 : RowAt Kc w5 (New w1 w2) (.slice ad2 n2 cap2) (prsL px2).1 := (uh h2).2.kept (fun k hk => by
  have q3 := (uh h3).1
  have q4 := (uh h4).1
  have q5 := (uh h5).1
  have s3 := q3.size
  have s4 := q4.size
  have := hk.2
  exact (q5.block k (by omega)).trans ((q4.block k (by omega)).trans (q3.block k (by omega)))) (fun _ h => h)
 have r3 := (uh h3).2
 have r5 := (uh h5).2
 clear h1 h2 h3 h4 h5 HE0 HE1 HE2 HE3 HE4
 obtain ⟨_, _, e3⟩ := r3.slice
 rw [pn3] at e3
 injection e3 with _ e3 _
 subst e3
 obtain ⟨c1, y1⟩ : ∃ c, (prsL px1).1[0]? = some c := ⟨_, List.getElem?_eq_getElem (by rw [pn1]; decide)⟩
 obtain ⟨c2, y2⟩ : ∃ c, (prsL px2).1[0]? = some c := ⟨_, List.getElem?_eq_getElem (by rw [pn2]; decide)⟩
 obtain ⟨c5, y5⟩ : ∃ c, (prsL px5).1[0]? = some c := ⟨_, List.getElem?_eq_getElem (by rw [pn5]; decide)⟩
 have z1 := pv1
 rw [y1] at z1
 simp only [Option.map_some, Option.some.injEq, Prod.mk.injEq] at z1
 have z2 := pv2
 rw [y2] at z2
 simp only [Option.map_some, Option.some.injEq, Prod.mk.injEq] at z2
 have z5 := pv5
 rw [y5] at z5
 simp only [Option.map_some, Option.some.injEq, Prod.mk.injEq] at z5
 obtain ⟨g1, k1, e1, _, f1⟩ := r1.cmd (by rw [pn1]; decide)
 rw [pn1] at e1
 injection e1 with e1a e1b e1c
 subst e1a e1b e1c
 obtain ⟨g2, k2, e2, _, f2⟩ := r2.cmd (by rw [pn2]; decide)
 rw [pn2] at e2
 injection e2 with e2a e2b e2c
 subst e2a e2b e2c
 obtain ⟨g5, k5, e5, _, f5⟩ := r5.cmd (by rw [pn5]; decide)
 rw [pn5] at e5
 injection e5 with e5a e5b e5c
 subst e5a e5b e5c
 obtain ⟨cs1, m1, o1⟩ := f1 0 c1 y1
 obtain ⟨cs2, m2, o2⟩ := f2 0 c2 y2
 obtain ⟨cs5, m5, o5⟩ := f5 0 c5 y5
 obtain ⟨vl1, vw1, vr1, vc1, vi1, rfl, _, _, _, R1, _⟩ := m1.view
 obtain ⟨vl2, vw2, vr2, vc2, vi2, rfl, L2, _, R2, _, _⟩ := m2.view
 obtain ⟨vl5, vw5, vr5, vc5, vi5, rfl, _, _, _, R5, _⟩ := m5.view
 obtain ⟨ga, ka, ea, _, fa⟩ := R1.cmd (by rw [z1.2.1]; decide)
 rw [z1.2.1] at ea
 subst ea
 obtain ⟨cb, yb⟩ : ∃ c, c1.cmds[1]? = some c := ⟨_, List.getElem?_eq_getElem (by rw [z1.2.1]; decide)⟩
 obtain ⟨csb, mb, ob⟩ := fa 1 cb yb
 obtain ⟨vlb, vwb, vrb, vcb, vib, rfl, _⟩ := mb.view
 have zb := z1.2.2
 rw [yb] at zb
 simp only [Option.map_some, Option.some.injEq] at zb
 obtain ⟨al, kl, el⟩ := L2.slice
 rw [z2.1] at el
 subst el
 obtain ⟨gr, kr, er, _, fr⟩ := R2.el (by rw [z2.2.1]; decide)
 rw [z2.2.1] at er
 subst er
 obtain ⟨rr, yr⟩ : ∃ c, c2.redirs[1]? = some c := ⟨_, List.getElem?_eq_getElem (by rw [z2.2.1]; decide)⟩
 obtain ⟨csr, ⟨vr, er2, _⟩, orr⟩ := fr 1 rr yr
 subst er2
 have zr := z2.2.2
 rw [yr] at zr
 simp only [Option.map_some, Option.some.injEq] at zr
 obtain ⟨a5, k5', e5'⟩ := R5.slice
 rw [z5.2] at e5'
 subst e5'
 have d1 : w5.cell? ⟨g1, 0, none⟩ = some (.int .i64 5) := by rw [← z1.1]; exact o1 0 _ rfl
 have d2 : w5.cell? ⟨g1, 5, none⟩ = some (.slice (some ⟨ga, 0, none⟩) 2 ka) := o1 5 _ rfl
 have d3 : w5.cell? ⟨ga, 10, none⟩ = some (.bool true) := by rw [← zb]; exact ob 1 _ rfl
 have d4 : w5.cell? ⟨g2, 2, none⟩ = some (.slice al 1 kl) := o2 2 _ rfl
 have d5 : w5.cell? ⟨g2, 4, none⟩ = some (.slice (some ⟨gr, 0, none⟩) 2 kr) := o2 4 _ rfl
 have d6 : w5.cell? ⟨gr, 3, none⟩ = some (.int .i64 2) := by rw [← zr]; exact orr 0 _ rfl
 have d7 : w5.cell? ⟨g5, 0, none⟩ = some (.int .i64 8) := by rw [← z5.1]; exact o5 0 _ rfl
 have d8 : w5.cell? ⟨g5, 5, none⟩ = some (.slice a5 2 k5') := o5 5 _ rfl
 clear r1 r2 r3 r5 f1 f2 f5 m1 m2 m5 o1 o2 o5 R1 R2 R5 L2 fa fr mb ob orr y1 y2 y5 z1 z2 z5 yb yr zb zr
 go_wp2
 go_ret
 exact ⟨rfl, uh HB⟩
end Go.Proofs.YtojjfdobilkknaaGreatDoor
namespace Go.Proofs.YtojjfdobilkknaaGreatDoor
open Go.ChangeShapes Go.WideShapes Go.ChangeAt Go.RowKit
variable {H : Type} {enc : TypeId × Value → H}
theorem trodAll_below {P : Program} (hl : laidOutB P = true) {W W' : World} (hb : Below W.heap.size W W') :
 ∀ (ts : List TypeId) (vs : List Value) (ds : List (DataW H)) (ps : List MemPlace), (∀ t ∈ ts, P.readableRec t = true ∧ t < P.types.size) →
  DataW.TrodAll enc P W 0 (fun _ => true) true ts vs ds ps → DataW.TrodAll enc P W' 0 (fun b => decide (b < W.heap.size)) true ts vs ds ps
 | [], vs, ds, ps, _, h => by
   obtain ⟨rfl, rfl, rfl⟩ := trodAll_nil h
   exact trodAll_mk0
 | t :: ts, vs, ds, ps, ht, h => by
   obtain ⟨v, vs', d, ds', p, q, rfl, rfl, rfl, h0, r0⟩ := trodAll_cons h
   have k := ht t (by simp)
   have lt0 : ∀ x ∈ p, x.block < W.heap.size := by obtain ⟨m, hm⟩ := h0; exact DataW.trod_lt m _ _ _ hm
   exact trodAll_cons_mk (Below.trod hl k.1 k.2 h0 hb lt0) (trodAll_below hl hb ts vs' ds' q (fun u hu => ht u (by simp [hu])) r0)
theorem law_lifted {C : Checked} {os : Os} {f : FuncId} {fn : Func} {s : ChangeSpec} {L : List (String × DataW Unit)} {tb : TypeId}
 (own : ownKnob C.prog.godebug = none) (started : os.Started) (noInit : C.prog.inits.idxOf? f = none) (hfn : C.prog.funcs[f]? = some fn)
 (hl : laidOutB C.prog = true) (hvars : s.vars = []) (hread : ∀ t ∈ fn.params.toList, C.prog.readableRec t = true ∧ t < C.prog.types.size)
 (hres : fn.resultTypes = #[tb]) (hbool : C.prog.underlying tb = some .bool)
 (hspec : ∀ ds : List (DataW H), ds.length = fn.params.toList.length → s.fn H ds = { results := [.lit (.bool true)], args := ds })
 (witness : ∃ (w : World) (tape : Tape) (i : Input), w.os = os ∧ (w.forCall tape i).Shaped C.prog ∧ i.vars = [] ∧ Input.okWide C.prog (w.forCall tape i) .any w.heap.size f i ∧
  ((s.pre enc C.prog fn [] false (w.forCall tape i).memory i.args ∧ laidMetH C.prog L (w.forCall tape i).memory) ∧ sizedMet enc C.prog fn (OpenSpec.ofChange s) false (w.forCall tape i).memory i.args) ∧ Assume.holds {} C.prog (lone (Frame.enter C.prog f i.args .normal) [] (w.forCall tape i)))
 (contract : ∀ (W : World) (base : Nat) (args : Array Value) (ds : List (DataW H)) (ps : List MemPlace),
  (∀ (j : Nat) t v, fn.params[j]? = some t → args[j]? = some v → Value.okWide C.prog W .any base t v) →
  DataW.TrodAll enc C.prog W 0 (fun _ => true) true fn.params.toList args.toList ds ps →
  laidMetH C.prog L W → W.ShapedOpen C.prog →
  Calls C.prog f args W fun e W' => e = .returned (.bool true) ∧ Below W.heap.size W W') :
 ReturnsInHanded {} C os f .any (fun w args => (s.pre enc C.prog fn [] false w args ∧ laidMetH C.prog L w) ∧ sizedMet enc C.prog fn (OpenSpec.ofChange s) false w args) (s.post enc C.prog fn false true false false) := by
 refine returnsInHanded_of_calls own started noInit witness ?_
 intro w tape i _ hsh _ hok hpre _
 obtain ⟨_, _, _, fn', hfn', _, _, _, _, hval⟩ := hok
 obtain rfl : fn' = fn := Option.some.inj (hfn'.symm.trans hfn)
 obtain ⟨⟨⟨ds, gs, before, hw, _⟩, hx⟩, _⟩ := hpre
 have hw' := DataW.Whole.of_heap (w' := w.forCall tape i) (by rfl) hw
 have hW := hw'
 obtain ⟨p, q, hA, hV, _, _, _⟩ := hw'
 rw [hvars] at hV
 obtain ⟨rfl, rfl⟩ := trodVars_none hV
 have hlen : ∀ (ts : List TypeId) (vs : List Value) (ds : List (DataW H)) (ps : List MemPlace), DataW.TrodAll enc C.prog (w.forCall tape i) 0 (fun _ => true) true ts vs ds ps → ds.length = ts.length := by
  intro ts
  induction ts with
  | nil => intro vs ds ps h; obtain ⟨_, rfl, _⟩ := trodAll_nil h; rfl
  | cons t ts ih =>
    intro vs ds ps h
    obtain ⟨v, vs', d, ds', p, q, _, rfl, _, _, r0⟩ := trodAll_cons h
    simp [ih _ _ _ r0]
 refine (contract (w.forCall tape i) w.heap.size i.args ds p hval hA (hx.of_heap (by rfl)) hsh).mono fun e W' ⟨he, bel⟩ => ?_
 subst he
 have hs := hspec (ds ++ []) (by rw [List.append_nil]; exact hlen _ _ _ _ hA)
 refine ChangeSpec.post_blind (v := .bool true) ⟨ds, [], before, [], p, [], hW, ?_, ?_, ?_, bel.frame _, fun h => by cases h⟩
 ·rw [hs, hres]
  exact trodAll_mk1 (shut_bool hbool _)
 ·rw [hs]
  simp only [List.append_nil]
  exact trodAll_below hl bel _ _ _ _ hread hA
 ·rw [hs, hvars]
  rfl
end Go.Proofs.YtojjfdobilkknaaGreatDoor
namespace Go.Proofs.YtojjfdobilkknaaGreatDoor
open Go.ChangeShapes Go.WideShapes Go.ChangeAt Go.RowKit Go.Joins
def seatLaid : List (String × DataW Unit) := [("unicode/utf8.acceptRanges", Rows.laid_unicode_utf8_acceptRanges), ("conch/lex.operators", Rows.laid_conch_lex_operators), ("conch/word.signs", Rows.laid_conch_word_signs), ("conch/word.rules", Rows.laid_conch_word_rules), ("conch/parse.signs", Rows.laid_conch_parse_signs), ("unicode/utf8.first", Rows.laid_unicode_utf8_first)]
theorem own : ownKnob Tryz.prog.godebug = none := by kernel_rfl
theorem laidOut : laidOutB Tryz.prog = true := by kernel_rfl
def sgnD {H : Type} : DataW H := .agg (sgnT.map fun x => .agg [.lit (.string x.1), .lit (.int .i64 x.2)])
theorem sgn_eqD : (Rows.laid_conch_word_signs : DataW Unit) = sgnD := by kernel_rfl
def rulT : List (Bool × Bool × Bool × List UInt8) := (List.range 6).map fun k => (sngW k, dblW k, allW k, escL k)
def rulD {H : Type} : DataW H := .agg (rulT.map fun x => .agg [.lit (.bool x.1), .lit (.bool x.2.1), .lit (.bool x.2.2.1), .lit (.string x.2.2.2)])
theorem rul_eqD : (Rows.laid_conch_word_rules : DataW Unit) = rulD := by kernel_rfl
theorem ba_of {s : ByteArray} {z : List UInt8} (h : s.data.toList = z) : s = BA z := by rw [← h]; rfl
theorem get_dt {cs : List Value} {a b : Nat} {x : Value} (h : (cs.drop a).take b = [x]) : cs[a]? = some x := by
 have := congrArg (·[0]?) h
 rw [List.getElem?_take] at this
 split at this
 ·simpa [List.getElem?_drop] using this
 ·cases this
theorem cSG : Tryz.prog.cellsOf 192 = 2 := by kernel_rfl
theorem cRG : Tryz.prog.cellsOf 180 = 4 := by kernel_rfl
theorem c9 : Tryz.prog.cellsOf 9 = 1 := by kernel_rfl
theorem c3 : Tryz.prog.cellsOf 3 = 1 := by kernel_rfl
theorem c4 : Tryz.prog.cellsOf 4 = 1 := by kernel_rfl
theorem drop_get {cs : List Value} {a b j : Nat} {x : Value} (h : ((cs.drop a).take b)[j]? = some x) : cs[a + j]? = some x := by
 rw [List.getElem?_take] at h
 split at h
 ·rwa [List.getElem?_drop] at h
 ·cases h
theorem sgn_cells {H : Type} {enc : TypeId × Value → H} {w : World} {base : Nat} {sp : Nat → Bool} {held : Bool} {fuel : Nat} {cs : List Value} {p : List MemPlace} (h : DataW.trod enc Tryz.prog w base sp held fuel 193 cs = some (sgnD, p)) :
 ∀ (i : Nat) (x : List UInt8 × Int), sgnT[i]? = some x → cs[i * 2]? = some (.string (BA x.1)) ∧ cs[i * 2 + 1]? = some (.int .i64 x.2) := by
 intro i x hi
 obtain ⟨xs, m, _, hx, _, hn, hf⟩ := DataW.trod_array Tryz.underlying193 h
 have hlt : i < 8 := (List.getElem?_eq_some_iff.1 hi).1
 have hx1 : xs.map (·.1) = sgnT.map fun x => .agg [.lit (.string x.1), .lit (.int .i64 x.2)] := by
  have := congrArg Prod.fst hx
  simp only [sgnD] at this
  injection this with this
  exact this.symm
 have hxi : (xs[i]?).map (·.1) = some (.agg [.lit (.string x.1), .lit (.int .i64 x.2)]) := by rw [← List.getElem?_map, hx1, List.getElem?_map, hi]; rfl
 obtain ⟨y, hy, hy1⟩ := Option.map_eq_some_iff.1 hxi
 have hf1 := hf i hlt
 rw [hy, cSG] at hf1
 obtain ⟨y0, y1, m2, hyy, _, g0, g1⟩ := trod_struct2 Tryz.underlying192 hf1
 rw [hyy] at hy1
 simp only [DataW.agg.injEq, List.cons.injEq, and_true] at hy1
 obtain ⟨s, hs, rfl, _⟩ := DataW.trod_string Tryz.underlying9 g0
 obtain ⟨n, hn', rfl, _⟩ := DataW.trod_int Tryz.underlying3 g1
 simp only [DataW.lit.injEq, Lit.string.injEq, Lit.int.injEq, true_and] at hy1
 rw [c9] at hs
 rw [c3] at hn'
 have e0 := get_dt hs
 have e1 := get_dt hn'
 rw [← ba_of hy1.1, ← hy1.2]
 exact ⟨drop_get (j := 0) e0, drop_get (j := 1) e1⟩
theorem rul_cells {H : Type} {enc : TypeId × Value → H} {w : World} {base : Nat} {sp : Nat → Bool} {held : Bool} {fuel : Nat} {cs : List Value} {p : List MemPlace} (h : DataW.trod enc Tryz.prog w base sp held fuel 181 cs = some (rulD, p)) :
 ∀ (i : Nat) (x : Bool × Bool × Bool × List UInt8), rulT[i]? = some x → cs[i * 4]? = some (.bool x.1) ∧ cs[i * 4 + 1]? = some (.bool x.2.1) ∧ cs[i * 4 + 2]? = some (.bool x.2.2.1) ∧ cs[i * 4 + 3]? = some (.string (BA x.2.2.2)) := by
 intro i x hi
 obtain ⟨xs, m, _, hx, _, hn, hf⟩ := DataW.trod_array Tryz.underlying181 h
 have hlt : i < 6 := by have := (List.getElem?_eq_some_iff.1 hi).1; simpa [rulT] using this
 have hx1 : xs.map (·.1) = rulT.map fun x => .agg [.lit (.bool x.1), .lit (.bool x.2.1), .lit (.bool x.2.2.1), .lit (.string x.2.2.2)] := by
  have := congrArg Prod.fst hx
  simp only [rulD] at this
  injection this with this
  exact this.symm
 have hxi : (xs[i]?).map (·.1) = some (.agg [.lit (.bool x.1), .lit (.bool x.2.1), .lit (.bool x.2.2.1), .lit (.string x.2.2.2)]) := by rw [← List.getElem?_map, hx1, List.getElem?_map, hi]; rfl
 obtain ⟨y, hy, hy1⟩ := Option.map_eq_some_iff.1 hxi
 have hf1 := hf i hlt
 rw [hy, cRG] at hf1
 obtain ⟨y0, y1, y2, y3, m2, hyy, _, g0, g1, g2, g3⟩ := trod_struct4 Tryz.underlying180 hf1
 rw [hyy] at hy1
 simp only [DataW.agg.injEq, List.cons.injEq, and_true] at hy1
 obtain ⟨b0, h0, rfl⟩ := DataW.trod_bool Tryz.underlying4 g0
 obtain ⟨b1, h1, rfl⟩ := DataW.trod_bool Tryz.underlying4 g1
 obtain ⟨b2, h2, rfl⟩ := DataW.trod_bool Tryz.underlying4 g2
 obtain ⟨s, h3, rfl, _⟩ := DataW.trod_string Tryz.underlying9 g3
 simp only [DataW.lit.injEq, Lit.string.injEq, Lit.bool.injEq] at hy1
 rw [c4] at h0 h1 h2
 rw [c9] at h3
 obtain ⟨q0, q1, q2, q3⟩ := hy1
 rw [← ba_of q3, ← q0, ← q1, ← q2]
 exact ⟨drop_get (j := 0) (get_dt h0), drop_get (j := 1) (get_dt h1), drop_get (j := 2) (get_dt h2), drop_get (j := 3) (get_dt h3)⟩
theorem gSg : Tryz.prog.globalNamed "conch/word.signs" = some 6 := by kernel_rfl
theorem tSg : (Tryz.prog.globals[6]?).map (·.type) = some 193 := by kernel_rfl
theorem gRu : Tryz.prog.globalNamed "conch/word.rules" = some 5 := by kernel_rfl
theorem tRu : (Tryz.prog.globals[5]?).map (·.type) = some 181 := by kernel_rfl
theorem sgn_of {W : World} {rest : List (String × DataW Unit)} (h : laidMet Tryz.prog (("conch/word.signs", sgnD) :: rest) W) : ∀ (i : Nat) (x : List UInt8 × Int), sgnT[i]? = some x → W.cell? ⟨6, i * 2, none⟩ = some (.string (BA x.1)) ∧ W.cell? ⟨6, i * 2 + 1, none⟩ = some (.int .i64 x.2) := by
 obtain ⟨ps, ⟨g', t', cs, fuel, p, q, hg', ht', hvar, hd, _, _⟩, _⟩ := h
 obtain rfl := Option.some.inj (gSg.symm.trans hg')
 obtain rfl := Option.some.inj (tSg.symm.trans ht')
 intro i x hi
 have hc := sgn_cells hd i x hi
 have hv := World.var?_cell gSg hvar
 exact ⟨by rw [hv, ← Array.getElem?_toList]; exact hc.1, by rw [hv, ← Array.getElem?_toList]; exact hc.2⟩
theorem rul_of {W : World} {rest : List (String × DataW Unit)} (h : laidMet Tryz.prog (("conch/word.rules", rulD) :: rest) W) : ∀ (i : Nat) (x : Bool × Bool × Bool × List UInt8), rulT[i]? = some x → W.cell? ⟨5, i * 4, none⟩ = some (.bool x.1) ∧ W.cell? ⟨5, i * 4 + 1, none⟩ = some (.bool x.2.1) ∧ W.cell? ⟨5, i * 4 + 2, none⟩ = some (.bool x.2.2.1) ∧ W.cell? ⟨5, i * 4 + 3, none⟩ = some (.string (BA x.2.2.2)) := by
 obtain ⟨ps, ⟨g', t', cs, fuel, p, q, hg', ht', hvar, hd, _, _⟩, _⟩ := h
 obtain rfl := Option.some.inj (gRu.symm.trans hg')
 obtain rfl := Option.some.inj (tRu.symm.trans ht')
 intro i x hi
 have hc := rul_cells hd i x hi
 have hv := World.var?_cell gRu hvar
 exact ⟨by rw [hv, ← Array.getElem?_toList]; exact hc.1, by rw [hv, ← Array.getElem?_toList]; exact hc.2.1, by rw [hv, ← Array.getElem?_toList]; exact hc.2.2.1, by rw [hv, ← Array.getElem?_toList]; exact hc.2.2.2⟩
def strData {H : Type} (zs : List (List UInt8)) : DataW H := .agg (zs.map fun z => .lit (.string z))
theorem ops_eq : (Rows.laid_conch_lex_operators : DataW Unit) = strData opsT := by kernel_rfl
theorem cells_of_strs {H : Type} {enc : TypeId × Value → H} {P : Program} {w : World} {base : Nat} {sp : Nat → Bool} {held : Bool} {fuel : Nat} {t e : TypeId} {n : Nat} {cs : List Value} {zs : List (List UInt8)} {p : List MemPlace}
 (ht : P.underlying t = some (.array n e)) (he : P.underlying e = some .string) (hce : P.cellsOf e = 1) (hct : P.cellsOf t = n)
 (h : DataW.trod enc P w base sp held fuel t cs = some (strData zs, p)) : cs = zs.map fun z => Value.string (BA z) := by
 cases fuel with
 | zero => simp [DataW.trod] at h
 | succ fuel =>
   simp only [DataW.trod, ht, hce, hct, Nat.mul_one] at h
   split at h
   ·rename_i hl
    obtain ⟨xs, hm, hx⟩ := Option.map_eq_some_iff.1 h
    have hxs : xs.map (·.1) = zs.map fun z => (DataW.lit (.string z) : DataW H) := by
     have := congrArg Prod.fst hx
     simpa [strData] using this
    have hxl : xs.length = n := by simpa using Lib.mapM_length hm
    have hzl : zs.length = n := by
     have := congrArg List.length hxs
     simp at this
     omega
    apply List.ext_getElem?
    intro i
    by_cases hi : i < n
    ·obtain ⟨b, hb, hf⟩ := Lib.mapM_at hm i i (by simp [hi])
     obtain ⟨z, hc, rfl, _⟩ := DataW.trod_string he hf
     have h1 : cs[i]? = some (.string z) := by
      have := congrArg (·[0]?) hc
      simpa [List.getElem?_take, List.getElem?_drop] using this
     have h2 : (xs.map (·.1))[i]? = some (DataW.lit (.string z.data.toList) : DataW H) := by simp [hb]
     rw [hxs] at h2
     simp only [List.getElem?_map, Option.map_eq_some_iff, DataW.lit.injEq, Lit.string.injEq] at h2
     obtain ⟨z', hz', rfl⟩ := h2
     simp [h1, hz', BA_of]
    ·rw [List.getElem?_eq_none (by omega), List.getElem?_eq_none (by simp; omega)]
   ·cases h
theorem gOps : Tryz.prog.globalNamed "conch/lex.operators" = some 0 := by kernel_rfl
theorem tOps : (Tryz.prog.globals[0]?).map (·.type) = some 107 := by kernel_rfl
theorem undOps : Tryz.prog.underlying 107 = some (.array 16 9) := by kernel_rfl
theorem cellsOps : Tryz.prog.cellsOf 107 = 16 := by kernel_rfl
theorem cellsStr : Tryz.prog.cellsOf 9 = 1 := by kernel_rfl
theorem ops_of {W : World} {rest : List (String × DataW Unit)} (h : laidMet Tryz.prog (("conch/lex.operators", strData opsT) :: rest) W) : OpsAt W := by
 obtain ⟨ps, ⟨g', t', cs, fuel, p, q, hg', ht', hvar, hd, _, _⟩, _⟩ := h
 obtain rfl := Option.some.inj (gOps.symm.trans hg')
 obtain rfl := Option.some.inj (tOps.symm.trans ht')
 have hcs := cells_of_strs undOps Tryz.underlying9 cellsStr cellsOps hd
 have hc : ∀ i, W.cell? ⟨0, i, none⟩ = (opsT.map fun z => Value.string (BA z))[i]? := by
  intro i
  have := World.var?_cell gOps hvar i
  rw [this, ← Array.getElem?_toList, hcs]
 constructor <;> rw [hc] <;> rfl
def sg3T : List (List UInt8 × Int × Int) := [([60], 1, 0), ([62], 2, 1), ([62, 62], 3, 1), ([60, 62], 4, 0), ([60, 38], 5, 0), ([62, 38], 5, 1), ([60, 60], 6, 0), ([60, 60, 45], 6, 0)]
def sg3D {H : Type} : DataW H := .agg (sg3T.map fun x => .agg [.lit (.string x.1), .lit (.int .i64 x.2.1), .lit (.int .i64 x.2.2)])
theorem sg3_eqD : (Rows.laid_conch_parse_signs : DataW Unit) = sg3D := by kernel_rfl
theorem cS3 : Tryz.prog.cellsOf 161 = 3 := by kernel_rfl
theorem sg3_cells {H : Type} {enc : TypeId × Value → H} {w : World} {base : Nat} {sp : Nat → Bool} {held : Bool} {fuel : Nat} {cs : List Value} {p : List MemPlace} (h : DataW.trod enc Tryz.prog w base sp held fuel 162 cs = some (sg3D, p)) :
 ∀ (i : Nat) (x : List UInt8 × Int × Int), sg3T[i]? = some x → cs[i * 3]? = some (.string (BA x.1)) ∧ cs[i * 3 + 1]? = some (.int .i64 x.2.1) ∧ cs[i * 3 + 2]? = some (.int .i64 x.2.2) := by
 intro i x hi
 obtain ⟨xs, m, _, hx, _, hn, hf⟩ := DataW.trod_array Tryz.underlying162 h
 have hlt : i < 8 := (List.getElem?_eq_some_iff.1 hi).1
 have hx1 : xs.map (·.1) = sg3T.map fun x => .agg [.lit (.string x.1), .lit (.int .i64 x.2.1), .lit (.int .i64 x.2.2)] := by
  have := congrArg Prod.fst hx
  simp only [sg3D] at this
  injection this with this
  exact this.symm
 have hxi : (xs[i]?).map (·.1) = some (.agg [.lit (.string x.1), .lit (.int .i64 x.2.1), .lit (.int .i64 x.2.2)]) := by rw [← List.getElem?_map, hx1, List.getElem?_map, hi]; rfl
 obtain ⟨y, hy, hy1⟩ := Option.map_eq_some_iff.1 hxi
 have hf1 := hf i hlt
 rw [hy, cS3] at hf1
 obtain ⟨y0, y1, y2, m2, hyy, _, g0, g1, g2⟩ := Deep.trod_struct3 Tryz.underlying161 hf1
 rw [hyy] at hy1
 simp only [DataW.agg.injEq, List.cons.injEq, and_true] at hy1
 obtain ⟨s, hs, rfl, _⟩ := DataW.trod_string Tryz.underlying9 g0
 obtain ⟨n, hn', rfl, _⟩ := DataW.trod_int Tryz.underlying3 g1
 obtain ⟨n2, hn2, rfl, _⟩ := DataW.trod_int Tryz.underlying3 g2
 simp only [DataW.lit.injEq, Lit.string.injEq, Lit.int.injEq, true_and] at hy1
 rw [c9] at hs
 rw [c3] at hn' hn2
 obtain ⟨q0, q1, q2⟩ := hy1
 rw [← ba_of q0, ← q1, ← q2]
 exact ⟨drop_get (j := 0) (get_dt hs), drop_get (j := 1) (get_dt hn'), drop_get (j := 2) (get_dt hn2)⟩
theorem gS3 : Tryz.prog.globalNamed "conch/parse.signs" = some 2 := by kernel_rfl
theorem tS3 : (Tryz.prog.globals[2]?).map (·.type) = some 162 := by kernel_rfl
theorem sg3_of {W : World} {rest : List (String × DataW Unit)} (h : laidMet Tryz.prog (("conch/parse.signs", sg3D) :: rest) W) : ∀ (i : Nat) (x : List UInt8 × Int × Int), sg3T[i]? = some x → W.cell? ⟨2, i * 3, none⟩ = some (.string (BA x.1)) ∧ W.cell? ⟨2, i * 3 + 1, none⟩ = some (.int .i64 x.2.1) ∧ W.cell? ⟨2, i * 3 + 2, none⟩ = some (.int .i64 x.2.2) := by
 obtain ⟨ps, ⟨g', t', cs, fuel, p, q, hg', ht', hvar, hd, _, _⟩, _⟩ := h
 obtain rfl := Option.some.inj (gS3.symm.trans hg')
 obtain rfl := Option.some.inj (tS3.symm.trans ht')
 intro i x hi
 have hc := sg3_cells hd i x hi
 have hv := World.var?_cell gS3 hvar
 exact ⟨by rw [hv, ← Array.getElem?_toList]; exact hc.1, by rw [hv, ← Array.getElem?_toList]; exact hc.2.1, by rw [hv, ← Array.getElem?_toList]; exact hc.2.2⟩
theorem sgL_at {W : World} (h : ∀ (i : Nat) (x : List UInt8 × Int × Int), sg3T[i]? = some x → W.cell? ⟨2, i * 3, none⟩ = some (.string (BA x.1)) ∧ W.cell? ⟨2, i * 3 + 1, none⟩ = some (.int .i64 x.2.1) ∧ W.cell? ⟨2, i * 3 + 2, none⟩ = some (.int .i64 x.2.2)) : W.rangeAt 2 0 sgL := by
 intro j v hv
 have hj : j < 24 := (List.getElem?_eq_some_iff.1 hv).1
 have hd : j = j / 3 * 3 + j % 3 := by omega
 have hq : j / 3 < 8 := by omega
 have hr : j % 3 < 3 := by omega
 obtain ⟨q, hq0⟩ : ∃ q, q = j / 3 := ⟨_, rfl⟩
 obtain ⟨r, hr0⟩ : ∃ r, r = j % 3 := ⟨_, rfl⟩
 rw [← hq0, ← hr0] at hd
 rw [← hq0] at hq
 rw [← hr0] at hr
 clear hq0 hr0
 subst hd
 rw [Nat.zero_add]
 have hx : ∀ q, q < 8 → ∃ x, sg3T[q]? = some x ∧ sgL[q * 3 + 0]? = some (.string (BA x.1)) ∧ sgL[q * 3 + 1]? = some (.int .i64 x.2.1) ∧ sgL[q * 3 + 2]? = some (.int .i64 x.2.2) := by
  intro q hq
  match q, hq with
  | 0, _ => exact ⟨_, rfl, rfl, rfl, rfl⟩
  | 1, _ => exact ⟨_, rfl, rfl, rfl, rfl⟩
  | 2, _ => exact ⟨_, rfl, rfl, rfl, rfl⟩
  | 3, _ => exact ⟨_, rfl, rfl, rfl, rfl⟩
  | 4, _ => exact ⟨_, rfl, rfl, rfl, rfl⟩
  | 5, _ => exact ⟨_, rfl, rfl, rfl, rfl⟩
  | 6, _ => exact ⟨_, rfl, rfl, rfl, rfl⟩
  | 7, _ => exact ⟨_, rfl, rfl, rfl, rfl⟩
 obtain ⟨x, x0, x1, x2, x3⟩ := hx q hq
 obtain ⟨y1, y2, y3⟩ := h q x x0
 have hr3 : r = 0 ∨ r = 1 ∨ r = 2 := by omega
 rcases hr3 with rfl | rfl | rfl
 ·exact y1.trans (x1.symm.trans hv)
 ·exact y2.trans (x2.symm.trans hv)
 ·exact y3.trans (x3.symm.trans hv)
theorem max_of (W : World) (h : W.ShapedOpen Tryz.prog) : ∃ m : Int, W.cell? ⟨1, 0, none⟩ = some (.int .i64 m) :=
 Go.Proofs.cell_of_shapedOpen_int (zero := #[.int .i64 0]) (t := 3) h (of_decide_eq_true (by kernel_rfl)) (by kernel_rfl) rfl (by kernel_rfl) (by kernel_rfl) Tryz.underlying3
theorem rulT_at (k : Nat) (hk : k < 6) : rulT[k]? = some (sngW k, dblW k, allW k, escL k) := by
 unfold rulT
 rw [List.getElem?_map, List.getElem?_range hk]
 rfl
theorem wenv_of {W : World} (hL : laidMetH Tryz.prog seatLaid W) (hsh : W.ShapedOpen Tryz.prog) : WEnv W := by
 rw [MakeChecks.laidMetH_plain _ _ _ (by kernel_rfl)] at hL
 have h2 := laidMet.tail (laidMet.tail hL)
 have h3 := laidMet.tail h2
 rw [sgn_eqD] at h2
 rw [rul_eqD] at h3
 have hs := sgn_of h2
 have hr := rul_of h3
 obtain ⟨m, hm⟩ := max_of W hsh
 refine ⟨fun k hk => (hr k _ (rulT_at k hk)).1, fun k hk => (hr k _ (rulT_at k hk)).2.1, fun k hk => (hr k _ (rulT_at k hk)).2.2.1, fun k hk => (hr k _ (rulT_at k hk)).2.2.2, fun j hj => ?_, ⟨m, hm⟩, ?_⟩
 ·have hj' : j = 0 ∨ j = 1 ∨ j = 2 ∨ j = 3 ∨ j = 4 ∨ j = 5 ∨ j = 6 ∨ j = 7 ∨ j = 8 ∨ j = 9 ∨ j = 10 ∨ j = 11 ∨ j = 12 ∨ j = 13 ∨ j = 14 ∨ j = 15 := by omega
  rcases hj' with rfl | rfl | rfl | rfl | rfl | rfl | rfl | rfl | rfl | rfl | rfl | rfl | rfl | rfl | rfl | rfl
  ·exact (hs 0 _ rfl).1
  ·exact (hs 0 _ rfl).2
  ·exact (hs 1 _ rfl).1
  ·exact (hs 1 _ rfl).2
  ·exact (hs 2 _ rfl).1
  ·exact (hs 2 _ rfl).2
  ·exact (hs 3 _ rfl).1
  ·exact (hs 3 _ rfl).2
  ·exact (hs 4 _ rfl).1
  ·exact (hs 4 _ rfl).2
  ·exact (hs 5 _ rfl).1
  ·exact (hs 5 _ rfl).2
  ·exact (hs 6 _ rfl).1
  ·exact (hs 6 _ rfl).2
  ·exact (hs 7 _ rfl).1
  ·exact (hs 7 _ rfl).2
 ·have hm := (hs 0 _ rfl).1
  rcases Nat.lt_or_ge 6 W.heap.size with h' | h'
  ·exact h'
  ·have e : W.heap[6]? = none := Array.getElem?_eq_none h'
   unfold World.cell? at hm
   rw [e] at hm
   cases hm
theorem env_of {W : World} (hL : laidMetH Tryz.prog seatLaid W) (hsh : W.ShapedOpen Tryz.prog) : AEnv W := by
 have hw := wenv_of hL hsh
 rw [MakeChecks.laidMetH_plain _ _ _ (by kernel_rfl)] at hL
 have h1 := laidMet.tail hL
 have h4 := laidMet.tail (laidMet.tail (laidMet.tail h1))
 rw [ops_eq] at h1
 rw [sg3_eqD] at h4
 exact ⟨⟨hw, sgL_at (sg3_of h4)⟩, ops_of h1⟩
theorem read_of {P : Program} {ts : List TypeId} (h : (ts.all fun t => P.readableRec t && decide (t < P.types.size)) = true) : ∀ t ∈ ts, P.readableRec t = true ∧ t < P.types.size := by
 intro t ht
 have := List.all_eq_true.1 h t ht
 simpa using this
theorem door_met (os : Os) (args : Array Value) : laidMetH Tryz.prog seatLaid ((World.laidAll Tryz.prog os seatLaid).forCall (fun _ _ => 0) ⟨#[], args, []⟩).memory := by
 rw [MakeChecks.laidMetH_plain _ _ _ (by kernel_rfl)]
 exact laidMet_laidAll _ (by kernel_rfl) (by kernel_rfl)
end Go.Proofs.YtojjfdobilkknaaGreatDoor

/-
  Numbers of open files: take.
  Numbers of open files: what is open is closed; drop.
-/
import Derived.Test.YtemologkibcdoaaGreatDoorM32
import Derived.Handy

/- Numbers of open files: take. -/
namespace Go.Proofs.YtemologkibcdoaaGreatDoor
open Go.RowKit Go.Maps

theorem filC_set (f c c' : Nat) (v : Value) : (filC f c v).setIfInBounds 1 (.int .i64 (c' : Int)) = filC f c' v := rfl
theorem thC_set (L : Fay) (i : Nat) (t : Th) (m : Nat) : (thC L i t).setIfInBounds 1 (.int .i64 (m : Int)) = thC L i ⟨t.wh, m⟩ := rfl
theorem FH.put {w : World} {f q nb n x : Nat} {B : Bas} {Z : Nat → Prop} {A : AS} {sb : List Nat} {H : Hp} {L : Fay} (F : FH w f q Z A nb n B x sb H L) {k b : Nat} {l : List (Option Nat)} (hb : sb[k]? = some b) (hl : A.st[k]? = some l) (fd : Nat) (o : Option Nat) : FH (w.setCell ⟨b, 1 + fd, none⟩ (numV L o)) f q Z (putA A k (fd : Int) o) nb n B x sb (upd H b ⟨.set k, 76, setC L x (l.set fd o)⟩) L := by
  have hx := (F.li.st k b l hb hl).1
  have h := F.mx.set hx (1 + fd) (numV L o)
  rw [show (⟨.set k, 76, setC L x l⟩ : Cel).cs.setIfInBounds (1 + fd) (numV L o) = _ from setC_set fd o] at h
  exact ⟨h, F.li.put hb hl fd o⟩
/-- A thing's number of numbers, and with it the number of all that is open. -/
theorem FH.many {w : World} {f q nb n x c : Nat} {B : Bas} {Z : Nat → Prop} {A : AS} {sb : List Nat} {H : Hp} {L : Fay} {s : NS} (M : MX w f q Z s nb n B H) (F : Lies H f x L sb A c) {i : Nat} {t : Th} (ht : A.th[i]? = some t) (m : Nat) : MX (w.setCell ⟨L.tb i, 1, none⟩ (.int .i64 (m : Int))) f q Z s nb n B (upd H (L.tb i) ⟨.thing i, 98, thC L i ⟨t.wh, m⟩⟩) ∧ Lies (upd H (L.tb i) ⟨.thing i, 98, thC L i ⟨t.wh, m⟩⟩) f x L sb (manyA A i m) c :=
  ⟨M.set (F.th i t ht) 1 (.int .i64 (m : Int)), F.many ht m⟩
theorem FH.cnt {w : World} {f q nb n x c : Nat} {B : Bas} {Z : Nat → Prop} {A : AS} {sb : List Nat} {H : Hp} {L : Fay} {s : NS} (M : MX w f q Z s nb n B H) (F : Lies H f x L sb A c) (c' : Nat) : ∃ H', MX (w.setCell ⟨x, 1, none⟩ (.int .i64 (c' : Int))) f q Z s nb n B H' ∧ Lies H' f x L sb A c' := by
  obtain ⟨v, h1, h2⟩ := F.fil
  exact ⟨_, M.set h1 1 (.int .i64 (c' : Int)), F.cnt h1 c'⟩
theorem tag_ne {H : Hp} {a b : Nat} {o p : Cel} (h1 : H a = some o) (h2 : H b = some p) (h : o.tg ≠ p.tg) : a ≠ b := fun e => by
  subst e
  rw [h1] at h2
  injection h2 with h2
  exact h (by rw [h2])
/-- What the cells say. -/
theorem FH.filCell {w : World} {f q nb n x : Nat} {B : Bas} {Z : Nat → Prop} {A : AS} {sb : List Nat} {H : Hp} {L : Fay} (F : FH w f q Z A nb n B x sb H L) : w.cell? ⟨x, 0, none⟩ = some (.pointer (some ⟨f, 0, none⟩)) ∧ w.cell? ⟨x, 1, none⟩ = some (.int .i64 (openA A : Int)) ∧ ∀ j, w.frozen? ⟨x, j, none⟩ = false := by
  obtain ⟨v, h1, _⟩ := F.li.fil
  have := F.mx.blk _ _ h1
  exact ⟨this.cell 0 rfl, this.cell 1 rfl, fun j => this.frozen j⟩
theorem FH.thCell {w : World} {f q nb n x : Nat} {B : Bas} {Z : Nat → Prop} {A : AS} {sb : List Nat} {H : Hp} {L : Fay} (F : FH w f q Z A nb n B x sb H L) {i : Nat} {t : Th} (ht : A.th[i]? = some t) : w.cell? ⟨L.tb i, 0, none⟩ = some (itf L i t.wh) ∧ w.cell? ⟨L.tb i, 1, none⟩ = some (.int .i64 (t.many : Int)) ∧ ∀ j, w.frozen? ⟨L.tb i, j, none⟩ = false := by
  have := F.mx.blk _ _ (F.li.th i t ht)
  exact ⟨this.cell 0 rfl, this.cell 1 rfl, fun j => this.frozen j⟩
theorem FH.setCell {w : World} {f q nb n x : Nat} {B : Bas} {Z : Nat → Prop} {A : AS} {sb : List Nat} {H : Hp} {L : Fay} (F : FH w f q Z A nb n B x sb H L) {k b : Nat} {l : List (Option Nat)} (hb : sb[k]? = some b) (hl : A.st[k]? = some l) : w.cell? ⟨b, 0, none⟩ = some (.pointer (some ⟨x, 0, none⟩)) ∧ (∀ j, j < 16 → w.cell? ⟨b, 1 + j, none⟩ = some (numV L (l[j]?).join)) ∧ (∀ j, w.frozen? ⟨b, j, none⟩ = false) ∧ Blk w b 76 (setC L x l) ∧ l.length = 16 := by
  obtain ⟨h1, h2⟩ := F.li.st k b l hb hl
  have := F.mx.blk _ _ h1
  exact ⟨this.cell 0 rfl, fun j hj => this.cell _ (setC_at h2 j hj), fun j => this.frozen j, this, h2⟩
theorem FH.nes {w : World} {f q nb n x : Nat} {B : Bas} {Z : Nat → Prop} {A : AS} {sb : List Nat} {H : Hp} {L : Fay} (F : FH w f q Z A nb n B x sb H L) {k b : Nat} {l : List (Option Nat)} (hb : sb[k]? = some b) (hl : A.st[k]? = some l) {i : Nat} {t : Th} (ht : A.th[i]? = some t) : x ≠ L.tb i ∧ L.tb i ≠ b ∧ x ≠ b := by
  obtain ⟨v, h1, _⟩ := F.li.fil
  exact ⟨tag_ne h1 (F.li.th i t ht) (by simp), tag_ne (F.li.th i t ht) (F.li.st k b l hb hl).1 (by simp), tag_ne h1 (F.li.st k b l hb hl).1 (by simp)⟩
theorem row_many (A : AS) (i m : Nat) : (manyA A i m).st = A.st ∧ (manyA A i m).s = A.s := by
  unfold manyA
  split <;> exact ⟨rfl, rfl⟩
theorem take_open {A : AS} {k i : Nat} {fd : Int} {t : Th} (ht : A.th[i]? = some t) : openA (takeA A k fd i) = openA A + (if t.many = 0 then 1 else 0) := by
  unfold takeA
  rw [ht]
  dsimp only
  rw [open_put]
  have := open_many ht (t.many + 1)
  rw [if_pos (Nat.succ_pos _)] at this
  split
  · rename_i h
    rw [if_neg (by omega)] at this
    omega
  · rename_i h
    rw [if_pos (by omega)] at this
    omega
set_option maxRecDepth 20000 in
set_option maxHeartbeats 4000000 in
theorem ftake_any {w : World} {f q nb n x : Nat} {B : Bas} {Z : Nat → Prop} {A : AS} {sb : List Nat} {H : Hp} {L : Fay} (F : FH w f q Z A nb n B x sb H L) {k b : Nat} {l : List (Option Nat)} (hb : sb[k]? = some b) (hl : A.st[k]? = some l) {fd i : Nat} {t : Th} (hfd : fd < 16) (ht : A.th[i]? = some t) (hm : t.many ≤ 1000000) (ho : openA A ≤ 1000000) : Calls Tryz.prog 34 #[.pointer (some ⟨b, 0, none⟩), .int .i64 (fd : Int), .pointer (some ⟨L.tb i, 0, none⟩)] w fun e w' => e = .returned (.tuple #[]) ∧ Hid (∃ H', FH w' f q Z (takeA A k (fd : Int) i) nb n B x sb H' L) := by
  obtain ⟨n1, n2, n3⟩ := F.nes hb hl ht
  obtain ⟨_, c2, f2⟩ := F.filCell
  obtain ⟨_, c3, f3⟩ := F.thCell ht
  obtain ⟨c0, c1, f1, _, hl16⟩ := F.setCell hb hl
  have d1 := c1 fd hfd
  have g2 := f2 1
  have g3 := f3 1
  have g1 := f1 (1 + fd)
  have hTA : takeA A k (fd : Int) i = putA (manyA A i (t.many + 1)) k (fd : Int) (some i) := by unfold takeA; rw [ht]
  have hTO := take_open (k := k) (fd := (fd : Int)) ht
  have hOP : openA (manyA A i (t.many + 1)) = openA (takeA A k (fd : Int) i) := by rw [hTA, open_put]
  have q1 : IntKind.i64.wrap ((t.many : Int) + 1) = ((t.many + 1 : Nat) : Int) := by rw [IntKind.wrap_i64]; omega
  have q2 : IntKind.i64.wrap ((openA A : Int) + 1) = ((openA A + 1 : Nat) : Int) := by rw [IntKind.wrap_i64]; omega
  have hst : (manyA A i (t.many + 1)).st[k]? = some l := by rw [(row_many A i _).1]; exact hl
  have hfd1 : (fd : Int) < 16 := by omega
  have hfd0 : (0 : Int) ≤ (fd : Int) := by omega
  by_cases h0 : t.many = 0
  · have HF : Hid (∃ H', FH (((w.setCell ⟨x, 1, none⟩ (.int .i64 ((openA A + 1 : Nat) : Int))).setCell ⟨L.tb i, 1, none⟩ (.int .i64 ((t.many + 1 : Nat) : Int))).setCell ⟨b, 1 + fd, none⟩ (.pointer (some ⟨L.tb i, 0, none⟩))) f q Z (takeA A k (fd : Int) i) nb n B x sb H' L) := hide (by
      rw [if_pos h0] at hTO
      obtain ⟨H1, M1, L1⟩ := FH.cnt F.mx F.li (openA A + 1)
      obtain ⟨M2, L2⟩ := FH.many M1 L1 ht (t.many + 1)
      rw [← hTO, ← hOP] at L2
      have F2 : FH _ f q Z (manyA A i (t.many + 1)) nb n B x sb _ L := ⟨by rw [(row_many A i _).2]; exact M2, L2⟩
      have F3 := F2.put hb hst fd (some i)
      rw [hTA]
      exact ⟨_, F3⟩)
    have h0b : (((t.many : Nat) : Int) == 0) = true := by rw [h0]; rfl
    obtain ⟨m1, hm1⟩ : ∃ m1, m1 = ((t.many + 1 : Nat) : Int) := ⟨_, rfl⟩
    obtain ⟨o1, ho1⟩ : ∃ o1, o1 = ((openA A + 1 : Nat) : Int) := ⟨_, rfl⟩
    obtain ⟨m, hmm⟩ : ∃ m, m = ((t.many : Nat) : Int) := ⟨_, rfl⟩
    obtain ⟨o, hoo⟩ : ∃ o, o = ((openA A : Nat) : Int) := ⟨_, rfl⟩
    rw [← hm1] at q1 HF
    rw [← ho1] at q2 HF
    rw [← hmm] at q1 h0b c3
    rw [← hoo] at q2 c2
    clear F hTA hTO hOP c1 f1 f2 f3 hst h0 hm1 ho1 hmm hoo hm ho
    go_enter Tryz.func34, Tryz.ntmps34
    go_wp2
    refine bodyPost_end (res0 rfl _ _) rfl ?_
    exact ⟨rfl, HF⟩
  · have HF : Hid (∃ H', FH ((w.setCell ⟨L.tb i, 1, none⟩ (.int .i64 ((t.many + 1 : Nat) : Int))).setCell ⟨b, 1 + fd, none⟩ (.pointer (some ⟨L.tb i, 0, none⟩))) f q Z (takeA A k (fd : Int) i) nb n B x sb H' L) := hide (by
      rw [if_neg h0] at hTO
      obtain ⟨M2, L2⟩ := FH.many F.mx F.li ht (t.many + 1)
      rw [show openA A = openA (manyA A i (t.many + 1)) by omega] at L2
      have F2 : FH _ f q Z (manyA A i (t.many + 1)) nb n B x sb _ L := ⟨by rw [(row_many A i _).2]; exact M2, L2⟩
      have F3 := F2.put hb hst fd (some i)
      rw [hTA]
      exact ⟨_, F3⟩)
    have h0b : (((t.many : Nat) : Int) == 0) = false := by simpa using h0
    obtain ⟨m1, hm1⟩ : ∃ m1, m1 = ((t.many + 1 : Nat) : Int) := ⟨_, rfl⟩
    obtain ⟨m, hmm⟩ : ∃ m, m = ((t.many : Nat) : Int) := ⟨_, rfl⟩
    rw [← hm1] at q1 HF
    rw [← hmm] at q1 h0b c3
    clear F hTA hTO hOP c1 f1 f2 f3 hst h0 hm1 hmm hm ho q2
    go_enter Tryz.func34, Tryz.ntmps34
    go_wp2
    refine bodyPost_end (res0 rfl _ _) rfl ?_
    exact ⟨rfl, HF⟩

end Go.Proofs.YtemologkibcdoaaGreatDoor

/- Numbers of open files: what is open is closed; drop. -/
namespace Go.Proofs.YtemologkibcdoaaGreatDoor
open Go.RowKit Go.Maps

theorem pat_cs {w : World} {p : Nat} {y : Pi.Pp} (h : Pi.PAt w p y) : ∃ cs, Blk w p 158 cs ∧ ∀ w2, Blk w2 p 158 cs → Pi.PAt w2 p y := by
  obtain ⟨h1, f, cs, h2⟩ := h
  exact ⟨cs, h2.blk, fun w2 hb => ⟨h1, f, cs, ⟨hb, h2.size, h2.c64, h2.c65, h2.c66, h2.c67, h2.ring, h2.f64⟩⟩⟩
theorem pipe_at {w : World} {f q nb n x c : Nat} {B : Bas} {Z : Nat → Prop} {A : AS} {sb : List Nat} {H : Hp} {L : Fay} (M : MX w f q Z A.s nb n B H) (Li : Lies H f x L sb A c) {p : Nat} {y : Pi.Pp} (hp : A.pp[p]? = some y) : Pi.PAt w (L.pb p) y := by
  obtain ⟨cs, h1, h2⟩ := Li.pp p y hp
  exact h2 w (M.blk _ _ h1)
theorem pipe_back {w : World} {f q nb n x c : Nat} {B : Bas} {Z : Nat → Prop} {A : AS} {sb : List Nat} {H : Hp} {L : Fay} (M : MX w f q Z A.s nb n B H) (Li : Lies H f x L sb A c) {p : Nat} {y : Pi.Pp} (hp : A.pp[p]? = some y) {w' : World} {y' : Pi.Pp} (h : Pi.PAt w' (L.pb p) y') (hg : GrownS w w' (fun k => k = L.pb p)) : ∃ H', MX w' f q Z A.s nb n B H' ∧ Lies H' f x L sb { A with pp := A.pp.set p y' } c := by
  obtain ⟨cs, h1, h2⟩ := Li.pp p y hp
  obtain ⟨cs', h3, h4⟩ := pat_cs h
  exact ⟨_, M.one h1 hg (o' := ⟨.pipe p, 158, cs'⟩) h3, Li.pipe hp h4⟩
theorem setPp_at {A : AS} {p : Nat} {y : Pi.Pp} (h : A.pp[p]? = some y) (g : Pi.Pp → Pi.Pp) : setPp A p g = { A with pp := A.pp.set p (g y) } := by
  unfold setPp
  rw [h]
theorem file_at {w : World} {f q nb n x c : Nat} {B : Bas} {Z : Nat → Prop} {A : AS} {sb : List Nat} {H : Hp} {L : Fay} (M : MX w f q Z A.s nb n B H) (Li : Lies H f x L sb A c) {i m : Nat} {y : Fl} (ht : A.th[i]? = some ⟨.file y, m⟩) (ho : FlOk y) : GX w f q (Yof Z H) A.s nb n ⟨B.w, w, fun k => Yof Z H k ∨ k = L.ob i⟩ [(L.ob i, y)] :=
  M.file (g := .obj i) (Li.ob i _ ht) ho
theorem file_back {w : World} {f q nb n x c : Nat} {B : Bas} {Z : Nat → Prop} {A : AS} {sb : List Nat} {H : Hp} {L : Fay} (M : MX w f q Z A.s nb n B H) (Li : Lies H f x L sb A c) {i m : Nat} {y : Fl} (ht : A.th[i]? = some ⟨.file y, m⟩) {w' : World} {s' : NS} {n' : Nat} {y' : Fl} (G : GX w' f q (Yof Z H) s' nb n' ⟨B.w, w, fun k => Yof Z H k ∨ k = L.ob i⟩ [(L.ob i, y')]) : ∃ H', MX w' f q Z s' nb n' B H' ∧ Lies H' f x L sb { setWh A i (.file y') with s := s' } c := by
  have ho : H (L.ob i) = some ⟨.obj i, 145, flV f y⟩ := Li.ob i _ ht
  exact ⟨_, M.fileBack ho G, (Li.objs ht ho rfl (.file y') rfl (upd_self _ _ _)).tree s'⟩
theorem closeA_at {A : AS} {i : Nat} {t : Th} (h : A.th[i]? = some t) : closeA A i = closeW A i t.wh := by
  unfold closeA
  rw [h]
theorem below_al (w : World) (cs : Array Value) (t : Nat) : Below w.heap.size w (w.alloc (.cells cs t)) := (Below.refl _ w).alloc (Nat.le_refl _) _
set_option maxRecDepth 20000 in
set_option maxHeartbeats 1000000 in
theorem fclose_any {w : World} {f q nb n x c : Nat} {B : Bas} {Z : Nat → Prop} {A : AS} {sb : List Nat} {H : Hp} {L : Fay} (M : MX w f q Z A.s nb n B H) (Li : Lies H f x L sb A c) (hn : n ≤ 9000) {i m : Nat} {y : Fl} (ht : A.th[i]? = some ⟨.file y, m⟩) (ho : FlOk y) : Calls Tryz.prog 222 #[.agg #[ptrV (L.ob i)]] w fun e w' => e = .returned (.tuple #[]) ∧ Hid (∃ H', MX w' f q Z (closeA A i).s nb (n + 1) B H' ∧ Lies H' f x L sb (closeA A i) c) := by
  have M2 := M.below (below_al w #[ptrV (L.ob i)] 103)
  have HC := hide (xclose_any (file_at M2 Li ht ho) (j := 0) rfl (by omega))
  have HB := hide (fun w' G => file_back (s' := xclS A.s y) (n' := n + 1) (y' := { y with cl := true }) M2 Li ht (w' := w') G)
  rw [closeA_at ht]
  show Calls Tryz.prog _ _ _ (fun e w' => e = .returned (.tuple #[]) ∧ Hid (∃ H', MX w' f q Z (xclS A.s y) nb (n + 1) B H' ∧ Lies H' f x L sb { setWh A i (.file { y with cl := true }) with s := xclS A.s y } c))
  unfold ptrV at *
  generalize (if y.cl = true then (28 : Int) else 0) = E at HC
  generalize L.ob i = ob at HC HB ⊢
  clear M Li M2 ht
  go_enter Tryz.func222, Tryz.ntmps222
  go_wp2_with fail
  refine (unhide HC).mono ?_
  rintro e w1 ⟨rfl, h1⟩
  have H1 := hide (unhide HB _ (unhide h1))
  clear h1 HC HB
  go_wp2_with fail
  refine bodyPost_end (res0 rfl _ _) rfl ?_
  exact ⟨rfl, H1⟩
set_option maxRecDepth 20000 in
set_option maxHeartbeats 1000000 in
theorem rclose_any {w : World} {f q nb n x c : Nat} {B : Bas} {Z : Nat → Prop} {A : AS} {sb : List Nat} {H : Hp} {L : Fay} (M : MX w f q Z A.s nb n B H) (Li : Lies H f x L sb A c) {i p m : Nat} (ht : A.th[i]? = some ⟨.rd p, m⟩) (hp : p < A.pp.length) : Calls Tryz.prog 238 #[.agg #[ptrV (L.pb p)]] w fun e w' => e = .returned (.tuple #[]) ∧ Hid (∃ H', MX w' f q Z (closeA A i).s nb (n + 1) B H' ∧ Lies H' f x L sb (closeA A i) c) := by
  have M2 := M.below (below_al w #[ptrV (L.pb p)] 117)
  obtain ⟨y, hy⟩ : ∃ y, A.pp[p]? = some y := ⟨_, List.getElem?_eq_getElem hp⟩
  have HC := hide (Pi.leave_f (pipe_at M2 Li hy))
  have HB := hide (fun w' h1 h2 => pipe_back M2 Li hy (w' := w') (y' := Pi.leS y false) h1 h2)
  rw [closeA_at ht]
  show Calls Tryz.prog _ _ _ (fun e w' => e = .returned (.tuple #[]) ∧ Hid (∃ H', MX w' f q Z (setPp A p (fun y => Pi.leS y false)).s nb (n + 1) B H' ∧ Lies H' f x L sb (setPp A p (fun y => Pi.leS y false)) c))
  rw [setPp_at hy]
  unfold ptrV at *
  generalize L.pb p = ob at HC HB ⊢
  clear M Li M2 ht
  go_enter Tryz.func238, Tryz.ntmps238
  go_wp2_with fail
  refine (unhide HC).mono ?_
  rintro e w1 ⟨rfl, h1, h2⟩
  have H1 := hide (unhide HB _ h1 h2)
  clear h1 h2 HC HB
  go_wp2_with fail
  refine bodyPost_end (res0 rfl _ _) rfl ?_
  obtain ⟨H', m1, m2⟩ := unhide H1
  exact ⟨rfl, hide ⟨H', m1.mono (Nat.le_succ _), m2⟩⟩
set_option maxRecDepth 20000 in
set_option maxHeartbeats 1000000 in
theorem wclose_any {w : World} {f q nb n x c : Nat} {B : Bas} {Z : Nat → Prop} {A : AS} {sb : List Nat} {H : Hp} {L : Fay} (M : MX w f q Z A.s nb n B H) (Li : Lies H f x L sb A c) {i p m : Nat} (ht : A.th[i]? = some ⟨.wr p, m⟩) (hp : p < A.pp.length) : Calls Tryz.prog 245 #[.agg #[ptrV (L.pb p)]] w fun e w' => e = .returned (.tuple #[]) ∧ Hid (∃ H', MX w' f q Z (closeA A i).s nb (n + 1) B H' ∧ Lies H' f x L sb (closeA A i) c) := by
  have M2 := M.below (below_al w #[ptrV (L.pb p)] 119)
  obtain ⟨y, hy⟩ : ∃ y, A.pp[p]? = some y := ⟨_, List.getElem?_eq_getElem hp⟩
  have HC := hide (Pi.leave_t (pipe_at M2 Li hy))
  have HB := hide (fun w' h1 h2 => pipe_back M2 Li hy (w' := w') (y' := Pi.leS y true) h1 h2)
  rw [closeA_at ht]
  show Calls Tryz.prog _ _ _ (fun e w' => e = .returned (.tuple #[]) ∧ Hid (∃ H', MX w' f q Z (setPp A p (fun y => Pi.leS y true)).s nb (n + 1) B H' ∧ Lies H' f x L sb (setPp A p (fun y => Pi.leS y true)) c))
  rw [setPp_at hy]
  unfold ptrV at *
  generalize L.pb p = ob at HC HB ⊢
  clear M Li M2 ht
  go_enter Tryz.func245, Tryz.ntmps245
  go_wp2_with fail
  refine (unhide HC).mono ?_
  rintro e w1 ⟨rfl, h1, h2⟩
  have H1 := hide (unhide HB _ h1 h2)
  clear h1 h2 HC HB
  go_wp2_with fail
  refine bodyPost_end (res0 rfl _ _) rfl ?_
  obtain ⟨H', m1, m2⟩ := unhide H1
  exact ⟨rfl, hide ⟨H', m1.mono (Nat.le_succ _), m2⟩⟩
set_option maxRecDepth 20000 in
theorem tclose_any (w : World) (b : Nat) : Calls Tryz.prog 218 #[ptrV b] w fun e w' => e = .returned (.tuple #[]) ∧ w' = w := by
  unfold ptrV
  go_enter Tryz.func218, Tryz.ntmps218
  go_wp2
  refine bodyPost_end (res0 rfl _ _) rfl ?_
  exact ⟨rfl, rfl⟩
set_option maxRecDepth 20000 in
theorem kclose_any (w : World) (b : Nat) : Calls Tryz.prog 233 #[ptrV b] w fun e w' => e = .returned (.tuple #[]) ∧ w' = w := by
  unfold ptrV
  go_enter Tryz.func233, Tryz.ntmps233
  go_wp2
  refine bodyPost_end (res0 rfl _ _) rfl ?_
  exact ⟨rfl, rfl⟩
/-- Which function closes a thing, and of what. -/
def clF : Wh → Nat
  | .file _ => 222
  | .rd _ => 238
  | .wr _ => 245
  | .tape _ => 218
  | .sink _ => 233
def recV (L : Fay) (i : Nat) : Wh → Value
  | .file _ => .agg #[ptrV (L.ob i)]
  | .rd p => .agg #[ptrV (L.pb p)]
  | .wr p => .agg #[ptrV (L.pb p)]
  | .tape _ => ptrV (L.ob i)
  | .sink k => ptrV (L.kb k)
theorem close_any {w : World} {f q nb n x c : Nat} {B : Bas} {Z : Nat → Prop} {A : AS} {sb : List Nat} {H : Hp} {L : Fay} (M : MX w f q Z A.s nb n B H) (Li : Lies H f x L sb A c) (hn : n ≤ 9000) {i : Nat} {t : Th} (ht : A.th[i]? = some t) (hw : WhOk A t.wh) : Calls Tryz.prog (clF t.wh) #[recV L i t.wh] w fun e w' => e = .returned (.tuple #[]) ∧ Hid (∃ H', MX w' f q Z (closeA A i).s nb (n + 1) B H' ∧ Lies H' f x L sb (closeA A i) c) := by
  obtain ⟨wh, m⟩ := t
  cases wh with
  | file y => exact fclose_any M Li hn ht hw
  | rd p => exact rclose_any M Li ht hw
  | wr p => exact wclose_any M Li ht hw
  | tape s =>
    refine (tclose_any w (L.ob i)).mono (fun e w' h => ⟨h.1, hide ⟨H, ?_⟩⟩)
    rw [h.2, closeA_at ht]
    exact ⟨M.mono (Nat.le_succ _), Li⟩
  | sink k =>
    refine (kclose_any w (L.kb k)).mono (fun e w' h => ⟨h.1, hide ⟨H, ?_⟩⟩)
    rw [h.2, closeA_at ht]
    exact ⟨M.mono (Nat.le_succ _), Li⟩

end Go.Proofs.YtemologkibcdoaaGreatDoor

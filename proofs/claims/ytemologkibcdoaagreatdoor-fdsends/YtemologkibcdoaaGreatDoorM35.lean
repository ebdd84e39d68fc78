/-
  Numbers of open files: new things; blocks that a caller keeps to itself; Tape.
  Numbers of open files: rows that grow; Sink.
-/
import Derived.Test.YtemologkibcdoaaGreatDoorM34
import Derived.Deep.AppendLies

/- Numbers of open files: new things; blocks that a caller keeps to itself; Tape. -/
namespace Go.Proofs.YtemologkibcdoaaGreatDoor
open Go.RowKit Go.Maps

theorem FH.below {w : World} {f q nb n x : Nat} {B : Bas} {Z : Nat → Prop} {A : AS} {sb : List Nat} {H : Hp} {L : Fay} (F : FH w f q Z A nb n B x sb H L) {w' : World} (hb : Below w.heap.size w w') : FH w' f q Z A nb n B x sb H L := ⟨F.mx.below hb, F.li⟩
theorem FH.mono {w : World} {f q nb n x : Nat} {B : Bas} {Z : Nat → Prop} {A : AS} {sb : List Nat} {H : Hp} {L : Fay} (F : FH w f q Z A nb n B x sb H L) {n' : Nat} (h : n ≤ n') : FH w f q Z A nb n' B x sb H L := ⟨F.mx.mono h, F.li⟩
theorem MX.zf {w : World} {f q nb n : Nat} {B : Bas} {Z : Nat → Prop} {s : NS} {H : Hp} (M : MX w f q Z s nb n B H) : ¬ Z f := fun h => by
  cases ho : H f with
  | none => exact M.fx.no ⟨h, ho⟩
  | some o => exact (M.out f o ho).2 rfl
theorem MX.new {w : World} {f q nb n : Nat} {B : Bas} {Z : Nat → Prop} {s : NS} {H : Hp} (M : MX w f q Z s nb n B H) : ∀ k, w.heap.size ≤ k → Z k := fun k hk => (M.fx.new k hk).1
theorem FH.rebased {w : World} {f q nb n x : Nat} {B : Bas} {Z : Nat → Prop} {A : AS} {sb : List Nat} {H : Hp} {L : Fay} (F : FH w f q Z A nb n B x sb H L) : FH w f q Z A nb n ⟨B.w, w, Z⟩ x sb H L := ⟨⟨F.mx.base Z (fun _ h => h.1), F.mx.blk, F.mx.out, fun k hk => ⟨(F.mx.tn k hk).1, hk⟩⟩, F.li⟩
theorem FH.back {w : World} {f q nb n x : Nat} {B : Bas} {Z : Nat → Prop} {A : AS} {sb : List Nat} {H : Hp} {L : Fay} (F : FH w f q Z A nb n B x sb H L) {w' : World} {A' : AS} {n' : Nat} {sb' : List Nat} {H' : Hp} {L' : Fay} (G : FH w' f q Z A' nb n' ⟨B.w, w, Z⟩ x sb' H' L') : FH w' f q Z A' nb n' B x sb' H' L' ∧ GrownS w w' Z := by
  have hg : GrownS w w' Z := G.mx.env.kept
  refine ⟨⟨⟨⟨⟨G.mx.fx.nd.at', G.mx.fx.nd.ok, F.mx.env.grownS hg F.mx.tn, fun k hk => F.mx.tn k hk.1⟩, G.mx.fx.blk, G.mx.fx.no, G.mx.fx.new⟩, G.mx.blk, G.mx.out, F.mx.tn⟩, G.li⟩, hg⟩
/-- What a caller made of its own in between is not among the blocks that turn. -/
def Zup (w w1 : World) (Z : Nat → Prop) : Nat → Prop := fun k => Upto w Z k ∨ w1.heap.size ≤ k
theorem FH.renew {w : World} {f q nb n x : Nat} {B : Bas} {Z : Nat → Prop} {A : AS} {sb : List Nat} {H : Hp} {L : Fay} (F : FH w f q Z A nb n B x sb H L) {w1 : World} (hb : Below w.heap.size w w1) : FH w1 f q (Zup w w1 Z) A nb n B x sb H L := by
  have hf := F.mx.fx.blk.lt
  have hlt : ∀ b o, H b = some o → b < w.heap.size := fun b o h => F.mx.lt h
  have hY : Yof (Zup w w1 Z) H = fun k => Upto w (Yof Z H) k ∨ w1.heap.size ≤ k := by
    funext k
    apply propext
    constructor
    · rintro ⟨hz | hz, hk⟩
      · exact .inl ⟨⟨hz.1, hk⟩, hz.2⟩
      · exact .inr hz
    · rintro (⟨hk, hl⟩ | hk)
      · exact ⟨.inl ⟨hk.1, hl⟩, hk.2⟩
      · refine ⟨.inr hk, ?_⟩
        cases ho : H k with
        | none => rfl
        | some o =>
          have h1 := hlt k o ho
          have h2 := hb.size
          omega
  refine ⟨⟨by rw [hY]; exact F.mx.fx.renew hb, fun b o h => (F.mx.blk b o h).below hb (hlt b o h), fun b o h => ⟨.inl ⟨(F.mx.out b o h).1, hlt b o h⟩, (F.mx.out b o h).2⟩, fun k hk => ?_⟩, F.li⟩
  rcases hk with hk | hk
  · exact F.mx.tn k hk.1
  · exact F.mx.tn k (F.mx.new k (Nat.le_trans hb.size hk))
theorem FH.home {w : World} {f q nb n x : Nat} {B : Bas} {Z : Nat → Prop} {A : AS} {sb : List Nat} {H : Hp} {L : Fay} (F : FH w f q Z A nb n B x sb H L) {w1 w2 : World} {A' : AS} {n' : Nat} {sb' : List Nat} {H' : Hp} {L' : Fay} (hb : Below w.heap.size w w1) (G : FH w2 f q (Zup w w1 Z) A' nb n' B x sb' H' L') : FH w2 f q Z A' nb n' B x sb' H' L' := by
  have hz : ∀ k, Zup w w1 Z k → Z k := fun k hk => by
    rcases hk with hk | hk
    · exact hk.1
    · exact F.mx.new k (Nat.le_trans hb.size hk)
  refine ⟨⟨G.mx.fx.wide (fun k hk => ⟨hz k hk.1, hk.2⟩) (fun h => F.mx.zf h.1) (fun k hk => F.mx.tn k hk.1), G.mx.blk, fun b o h => ⟨hz b (G.mx.out b o h).1, (G.mx.out b o h).2⟩, F.mx.tn⟩, G.li⟩
/-! New things. -/
def Fay.add (L : Fay) (i tb ob : Nat) : Fay := { L with tb := fun j => if j = i then tb else L.tb j, ob := fun j => if j = i then ob else L.ob j }
theorem Lies.ext {H H' : Hp} {f x c : Nat} {L : Fay} {sb : List Nat} {A : AS} (h : Lies H f x L sb A c) (he : ∀ b o, H b = some o → H' b = some o) : Lies H' f x L sb A c := by
  obtain ⟨v, h1, h2⟩ := h.fil
  refine ⟨⟨v, he _ _ h1, h2.tag (fun b o h _ => he b o h)⟩, fun i t ht => he _ _ (h.th i t ht), fun i t ht => ?_, fun p y hp => ?_, fun k t hk => ?_, fun k b l h3 h4 => ⟨he _ _ (h.st k b l h3 h4).1, (h.st k b l h3 h4).2⟩, h.len⟩
  · have := h.ob i t ht
    cases hw : t.wh <;> rw [hw] at this
    · exact he _ _ this
    · trivial
    · trivial
    · exact he _ _ this
    · trivial
  · obtain ⟨cs, e1, e2⟩ := h.pp p y hp
    exact ⟨cs, he _ _ e1, e2⟩
  · obtain ⟨a, u, e1, e2, e3⟩ := h.sk k t hk
    exact ⟨a, u, he _ _ e1, e2, e3.tag (fun b o h _ => he b o h)⟩
theorem add_itf (L : Fay) {i j : Nat} (tb ob : Nat) (h : j ≠ i) (y : Wh) : itf (L.add i tb ob) j y = itf L j y := by
  cases y <;> simp [itf, Fay.add, h]
theorem add_obj {H : Hp} {f : Nat} {L : Fay} {i j : Nat} (tb ob : Nat) (h : j ≠ i) {y : Wh} (hy : objP H f L j y) : objP H f (L.add i tb ob) j y := by
  cases y with
  | file z => show H (if j = i then ob else L.ob j) = _; rw [if_neg h]; exact hy
  | tape z => show H (if j = i then ob else L.ob j) = _; rw [if_neg h]; exact hy
  | rd p => trivial
  | wr p => trivial
  | sink k => trivial
theorem add_tb (L : Fay) {i j : Nat} (tb ob : Nat) (h : j ≠ i) : (L.add i tb ob).tb j = L.tb j := if_neg h
theorem add_setC (L : Fay) {i x : Nat} (tb ob : Nat) {l : List (Option Nat)} (h : ∀ (j m : Nat), l[j]? = some (some m) → m < i) : setC (L.add i tb ob) x l = setC L x l := by
  unfold setC
  congr 2
  refine List.map_congr_left (fun o ho => ?_)
  cases o with
  | none => rfl
  | some m =>
    obtain ⟨j, hj⟩ := List.mem_iff_getElem?.1 ho
    rw [numV_some, numV_some, add_tb]
    have := h j m hj
    omega
theorem Lies.newTh {H : Hp} {f x c : Nat} {L : Fay} {sb : List Nat} {A : AS} (h : Lies H f x L sb A c) (hr : RowOk A) {y : Wh} {tb ob : Nat} (hb : H tb = some ⟨.thing A.th.length, 98, thC (L.add A.th.length tb ob) A.th.length ⟨y, 0⟩⟩) (ho : objP H f (L.add A.th.length tb ob) A.th.length y) : Lies H f x (L.add A.th.length tb ob) sb (nwA A y) c := by
  refine ⟨h.fil, fun i t ht => ?_, fun i t ht => ?_, h.pp, h.sk, fun k b l h3 h4 => ?_, h.len⟩
  · rcases get_app ht with ⟨rfl, rfl⟩ | ⟨hi, ht⟩
    · show H (if A.th.length = A.th.length then tb else _) = _
      rw [if_pos rfl]
      exact hb
    · rw [add_tb _ _ _ (by omega)]
      unfold thC
      rw [add_itf _ _ _ (by omega)]
      exact h.th i t ht
  · rcases get_app ht with ⟨rfl, rfl⟩ | ⟨hi, ht⟩
    · exact ho
    · exact add_obj _ _ (by omega) (h.ob i t ht)
  · rw [add_setC L tb ob (hr k l h4).2]
    exact h.st k b l h3 h4
theorem upd_new {H : Hp} {b : Nat} (h : H b = none) (o : Cel) : ∀ c p, H c = some p → upd H b o c = some p := fun c p hc => by
  rw [upd_ne _ _ (fun e => by subst e; rw [h] at hc; cases hc)]
  exact hc
theorem MX.noth {w : World} {f q nb n : Nat} {B : Bas} {Z : Nat → Prop} {s : NS} {H : Hp} (M : MX w f q Z s nb n B H) {b : Nat} (hb : w.heap.size ≤ b) : H b = none := by
  cases h : H b with
  | none => rfl
  | some o =>
    have := M.lt h
    omega
theorem open_nw (A : AS) (y : Wh) : openA (nwA A y) = openA A := by
  unfold openA nwA
  rw [List.countP_append]
  simp
/-- A thing whose object lies at ob (or that has none): its own block is laid. -/
theorem FH.newTh {w : World} {f q nb n x : Nat} {B : Bas} {Z : Nat → Prop} {A : AS} {sb : List Nat} {H : Hp} {L : Fay} (M : MX w f q Z A.s nb n B H) (Li : Lies H f x L sb A (openA A)) (hr : RowOk A) {y : Wh} {ob : Nat} {v : Value} (hv : v = itf (L.add A.th.length w.heap.size ob) A.th.length y) (ho : objP H f (L.add A.th.length w.heap.size ob) A.th.length y) : FH (w.alloc (.cells #[v, .int .i64 0] 98)) f q Z (nwA A y) nb n B x sb (upd H w.heap.size ⟨.thing A.th.length, 98, #[v, .int .i64 0]⟩) (L.add A.th.length w.heap.size ob) := by
  have hn := M.noth (Nat.le_refl _)
  have he := upd_new hn ⟨.thing A.th.length, 98, #[v, .int .i64 0]⟩
  refine ⟨M.more (.thing A.th.length) 98 #[v, .int .i64 0], ?_⟩
  rw [open_nw]
  refine (Li.ext he).newTh hr ?_ ?_
  · rw [upd_self, hv]
    rfl
  · cases y with
    | file z => exact he _ _ ho
    | tape z => exact he _ _ ho
    | rd p => trivial
    | wr p => trivial
    | sink k => trivial
theorem nw_get (A : AS) (y : Wh) : (nwA A y).th[A.th.length]? = some ⟨y, 0⟩ := by
  show (A.th ++ [_])[A.th.length]? = _
  rw [List.getElem?_append_right (Nat.le_refl _), Nat.sub_self]
  rfl
/-- What Tape leaves. -/
def tapA (A : AS) (k : Nat) (fd : Int) (s : List UInt8) : AS := if refNewL (row A k) fd = 0 then takeA (nwA A (.tape s)) k fd A.th.length else A
theorem refNew_ok {l : List (Option Nat)} {fd : Int} (h : refNewL l fd = 0) (hl : l.length = 16) : ∃ j : Nat, fd = (j : Int) ∧ j < 16 ∧ l[j]? = some none := by
  unfold refNewL at h
  split at h
  · rename_i hf
    obtain ⟨j, e, hj, e2⟩ := numL_ok (l := l) hf
    refine ⟨j, e, hj, ?_⟩
    rw [e2] at h
    rw [List.getElem?_eq_getElem (by omega)] at h ⊢
    cases hx : l[j] with
    | none => rfl
    | some m =>
      rw [hx] at h
      simp at h
  · exact absurd h (by decide)
set_option maxRecDepth 20000 in
set_option maxHeartbeats 4000000 in
theorem stape_any {w : World} {f q nb n x : Nat} {B : Bas} {Z : Nat → Prop} {A : AS} {sb : List Nat} {H : Hp} {L : Fay} (F : FH w f q Z A nb n B x sb H L) {k b : Nat} {l : List (Option Nat)} (hb : sb[k]? = some b) (hl : A.st[k]? = some l) (K : AOk A n) (hn : n ≤ 9000) (fd : Int) (s : List UInt8) (hs : s.length ≤ 1000000) : Calls Tryz.prog 16 #[.pointer (some ⟨b, 0, none⟩), .int .i64 fd, .string (BA s)] w fun e w' => e = .returned (.int .i64 (refNewL (row A k) fd)) ∧ Hid (∃ H' L', FH w' f q Z (tapA A k fd s) nb (n + 2) B x sb H' L' ∧ AOk (tapA A k fd s) (n + 2)) := by
  obtain ⟨c0, c1, f1, hblk, hl16⟩ := F.setCell hb hl
  have HR := hide (srefusenew_any hblk hl16 fd)
  unfold tapA
  rw [row_at hl]
  obtain ⟨E, hE⟩ : ∃ E, E = refNewL l fd := ⟨_, rfl⟩
  rw [← hE] at HR ⊢
  by_cases h0 : E = 0
  · obtain ⟨j, rfl, hj, hlj⟩ := refNew_ok (hE ▸ h0) hl16
    have hn1 := F.mx.noth (Nat.le_refl _)
    have he := upd_new hn1 ⟨.obj A.th.length, 94, #[.string (BA s)]⟩
    have M1 := F.mx.more (.obj A.th.length) 94 #[.string (BA s)]
    have F2 := FH.newTh M1 (F.li.ext he) K.row (y := .tape s) (ob := w.heap.size) (v := .iface 90 (.pointer (some ⟨w.heap.size, 0, none⟩))) (by simp [itf, Fay.add, ptrV]) (by show upd H w.heap.size _ (if A.th.length = A.th.length then w.heap.size else _) = _; rw [if_pos rfl, upd_self])
    have K2 := ok_new K (y := .tape s) hs
    have HT := ftake_any F2 hb hl hj (nw_get A _) (Nat.zero_le _) (by have := K2.open; omega)
    have K3 := hide (ok_take K2 hl hlj (nw_get A _))
    rw [show (L.add A.th.length (w.alloc (.cells #[.string (BA s)] 94)).heap.size w.heap.size).tb A.th.length = w.heap.size + 1 by simp [Fay.add]] at HT
    have HT := hide HT
    obtain ⟨T, hT⟩ : ∃ T, T = BA s := ⟨_, rfl⟩
    rw [← hT] at HT ⊢
    rw [if_pos h0]
    clear F hb hl K M1 F2 K2 c0 c1 f1 hblk hl16 hlj hn1 he hT hE
    subst h0
    go_enter Tryz.func16, Tryz.ntmps16
    go_wp2_with fail
    refine (unhide HR).mono ?_
    rintro e w1 ⟨rfl, hw⟩
    subst hw
    go_wp2_with fail
    refine (unhide HT).mono ?_
    rintro e w2 ⟨rfl, h2⟩
    clear HR HT
    go_wp2_with fail
    go_ret
    obtain ⟨H', h3⟩ := unhide h2
    exact ⟨rfl, hide ⟨H', _, h3.mono (by omega), unhide K3⟩⟩
  · have hE1 : (E != 0) = true := by simpa using h0
    rw [if_neg h0]
    have HF : Hid (∃ H' L', FH w f q Z A nb (n + 2) B x sb H' L' ∧ AOk A (n + 2)) := hide ⟨H, L, F.mono (by omega), K.mono (by omega)⟩
    clear F hb hl K c0 c1 f1 hblk hl16 hE h0
    go_enter Tryz.func16, Tryz.ntmps16
    go_wp2_with fail
    refine (unhide HR).mono ?_
    rintro e w1 ⟨rfl, hw⟩
    subst hw
    go_wp2_with fail
    go_ret
    exact ⟨rfl, HF⟩

end Go.Proofs.YtemologkibcdoaaGreatDoor

/- Numbers of open files: rows that grow; Sink. -/
namespace Go.Proofs.YtemologkibcdoaaGreatDoor
open Go.RowKit Go.Maps

/-- Blocks turn that are none of the tree's; what is known of each is told anew. -/
theorem MX.grow {w w' : World} {f q nb n : Nat} {B : Bas} {Z S : Nat → Prop} {s : NS} {H H' : Hp} (M : MX w f q Z s nb n B H) (hg : GrownS w w' S) (hS : ∀ k, S k → ∃ o, H k = some o) (h1 : ∀ k o, H' k = some o → (¬ S k ∧ H k = some o) ∨ (Blk w' k o.ty o.cs ∧ Z k ∧ k ≠ f)) (h2 : ∀ k, k < w.heap.size → Z k → H k = none → H' k = none) : MX w' f q Z s nb n B H' := by
  have hnew : ∀ k, w'.heap.size ≤ k → H' k = none := fun k hk => by
    cases ho : H' k with
    | none => rfl
    | some o =>
      rcases h1 k o ho with ⟨_, h⟩ | ⟨h, _⟩
      · have := M.lt h
        have := hg.size
        omega
      · have := h.lt
        omega
  have ht : ∀ k, S k → Z k := fun k hk => by
    obtain ⟨o, ho⟩ := hS k hk
    exact (M.out k o ho).1
  have hd := M.fx.nd.tight.grownS hg (fun k _ hk hs => by
    obtain ⟨o, ho⟩ := hS k hs
    rw [hk.1.2] at ho
    cases ho) (fun k hk => M.tn k (ht k hk))
  refine ⟨⟨⟨hd.at'.mono (fun k _ hk => ⟨hk.1.1, h2 k hk.2 hk.1.1 hk.1.2⟩), hd.ok, hd.env, fun k hk => M.tn k hk.1⟩, M.fx.blk.grownS hg (fun hs => ?_), fun h => M.zf h.1, fun k hk => ⟨M.new k (Nat.le_trans hg.size hk), hnew k hk⟩⟩, fun b o ho => ?_, fun b o ho => ?_, M.tn⟩
  · obtain ⟨o, ho⟩ := hS f hs
    exact (M.out f o ho).2 rfl
  · rcases h1 b o ho with ⟨hs, h⟩ | ⟨h, _⟩
    · exact (M.blk b o h).grownS hg hs
    · exact h
  · rcases h1 b o ho with ⟨hs, h⟩ | ⟨_, h, h'⟩
    · exact M.out b o h
    · exact ⟨h, h'⟩
/-- A row has grown, in its own block or in a new one. -/
theorem MX.rowGrow {w w1 w2 : World} {f q nb n : Nat} {B : Bas} {Z : Nat → Prop} {s : NS} {H : Hp} (M : MX w f q Z s nb n B H) {tg : Tg} {e : Nat} {v : Value} {xs ys : List Value} (hr : Row H tg e v xs) (hb : Below w.heap.size w w1) (hg : w1.grownBy w2 v.ownBlock) {g cap : Nat} (ho : w2.ownsRow 0 e 1 (.slice (some ⟨g, 0, none⟩) ys.length cap) ys.length ys) (hat : v.ownBlock = some g ∨ w1.heap.size ≤ g) : ∃ H2, MX w2 f q Z s nb n B H2 ∧ Row H2 tg e (.slice (some ⟨g, 0, none⟩) ys.length cap) ys ∧ ∀ b o, H b = some o → o.tg ≠ tg → H2 b = some o := by
  obtain ⟨_, ⟨hv, _⟩ | ⟨g', cap', cur, hv, _, hblk, hle, hmx, hsz, htk⟩⟩ := ho
  · cases hv
  · injection hv with e1 e2 e3
    injection e1 with e1
    injection e1 with e1
    subst e1
    subst e3
    have hown : ∀ k, v.ownBlock = some k → ∃ cu, H k = some ⟨tg, e, cu⟩ := fun k hk => by
      rcases hr with ⟨rfl, _⟩ | ⟨b, c2, cu, rfl, h2, _⟩
      · cases hk
      · injection hk with hk
        subst hk
        exact ⟨cu, h2⟩
    refine ⟨fun k => if k = g then some ⟨tg, e, cur⟩ else if v.ownBlock = some k then none else H k, ?_, ?_, fun b o hbo hne => ?_⟩
    · refine (M.below hb).grow (S := fun k => v.ownBlock = some k) (GrownS.of hg (fun k hk => hk.symm)) (fun k hk => ?_) (fun k o hk => ?_) (fun k hlt hz hk => ?_)
      · obtain ⟨cu, h⟩ := hown k hk
        exact ⟨_, h⟩
      · by_cases hkg : k = g
        · rw [if_pos hkg] at hk
          injection hk with hk
          subst hk
          subst hkg
          refine .inr ⟨hblk, ?_⟩
          rcases hat with hat | hat
          · obtain ⟨cu, h⟩ := hown k hat
            exact M.out k _ h
          · have hs := hb.size
            refine ⟨M.new k (by omega), ?_⟩
            have := M.fx.blk.lt
            omega
        · rw [if_neg hkg] at hk
          by_cases hko : v.ownBlock = some k
          · rw [if_pos hko] at hk; cases hk
          · rw [if_neg hko] at hk
            exact .inl ⟨hko, hk⟩
      · rw [if_neg (fun e => ?_)]
        · split
          · rfl
          · exact hk
        · subst e
          rcases hat with hat | hat
          · obtain ⟨cu, h⟩ := hown k hat
            rw [hk] at h; cases h
          · omega
    · exact .inr ⟨g, cap, cur, rfl, if_pos rfl, hle, hmx, by rw [hsz, Nat.mul_one], by rw [Nat.mul_one] at htk; exact htk⟩
    · have h1 : b ≠ g := fun e => by
        subst e
        rcases hat with hat | hat
        · obtain ⟨cu, h⟩ := hown b hat
          rw [hbo] at h
          injection h with h
          exact hne (by rw [h])
        · have := M.lt hbo
          have := hb.size
          omega
      have h2 : ¬ v.ownBlock = some b := fun e => by
        obtain ⟨cu, h⟩ := hown b e
        rw [hbo] at h
        injection h with h
        exact hne (by rw [h])
      show (if b = g then _ else if _ then _ else _) = _
      rw [if_neg h1, if_neg h2]
      exact hbo

def Fay.addK (L : Fay) (k kb : Nat) : Fay := { L with kb := fun j => if j = k then kb else L.kb j }
theorem addK_itf {A : AS} (L : Fay) (i kb : Nat) {y : Wh} (h : WhOk A y) : itf (L.addK A.sk.length kb) i y = itf L i y := by
  cases y with
  | sink k =>
    have : k < A.sk.length := h
    show Value.iface _ (ptrV (if k = A.sk.length then kb else L.kb k)) = _
    rw [if_neg (by omega)]
    rfl
  | _ => rfl
/-- A sink more: its block and the row's are laid, all else stays. -/
theorem Lies.newSk {H H' : Hp} {f x c tob : Nat} {L : Fay} {sb : List Nat} {A : AS} (h : Lies H f x L sb A c) (hw : ∀ (i : Nat) (t : Th), A.th[i]? = some t → WhOk A t.wh) (he : ∀ b o, H b = some o → o.tg ≠ .row → o.tg ≠ .files → H' b = some o) (ht : H' tob = some ⟨.sink A.sk.length, 113, #[.pointer none, .slice none 0 0]⟩) {v : Value} (hx : H' x = some ⟨.files, 81, filC f c v⟩) (hr : Row H' .row 106 v ((List.range A.sk.length).map (fun k => ptrV (L.kb k)) ++ [ptrV tob])) : Lies H' f x (L.addK A.sk.length tob) sb (nwSk A) c := by
  have hk : ∀ k, k < A.sk.length → (L.addK A.sk.length tob).kb k = L.kb k := fun k hk => if_neg (by omega)
  refine ⟨⟨v, hx, ?_⟩, fun i t h1 => ?_, fun i t h1 => ?_, fun p y hp => ?_, fun k t h1 => ?_, fun k b l h3 h4 => ⟨he _ _ (h.st k b l h3 h4).1 (by simp) (by simp), (h.st k b l h3 h4).2⟩, h.len⟩
  · have : (List.range (nwSk A).sk.length).map (fun k => ptrV ((L.addK A.sk.length tob).kb k)) = (List.range A.sk.length).map (fun k => ptrV (L.kb k)) ++ [ptrV tob] := by
      show (List.range (A.sk ++ [[]]).length).map _ = _
      rw [List.length_append, List.length_singleton, List.range_succ, List.map_append]
      congr 1
      · refine List.map_congr_left (fun k hk2 => ?_)
        rw [hk k (List.mem_range.1 hk2)]
      · show [ptrV (if A.sk.length = A.sk.length then tob else _)] = _
        rw [if_pos rfl]
    rw [this]
    exact hr
  · have := he _ _ (h.th i t h1) (by simp) (by simp)
    unfold thC at this ⊢
    rw [addK_itf L i tob (hw i t h1)]
    exact this
  · have := h.ob i t h1
    cases hy : t.wh <;> rw [hy] at this
    · exact he _ _ this (by simp) (by simp)
    · trivial
    · trivial
    · exact he _ _ this (by simp) (by simp)
    · trivial
  · obtain ⟨cs, e1, e2⟩ := h.pp p y hp
    exact ⟨cs, he _ _ e1 (by simp) (by simp), e2⟩
  · rcases get_app h1 with ⟨rfl, rfl⟩ | ⟨hlt, h1⟩
    · have e : (L.addK A.sk.length tob).kb A.sk.length = tob := if_pos rfl
      rw [e]
      exact ⟨_, _, ht, .inl rfl, .inl ⟨rfl, rfl⟩⟩
    · rw [hk k hlt]
      obtain ⟨a, u, e1, e2, e3⟩ := h.sk k t h1
      exact ⟨a, u, he _ _ e1 (by simp) (by simp), e2, e3.tag (fun b o hb ho => he b o hb (by rw [ho]; simp) (by rw [ho]; simp))⟩
theorem Row.slice {H : Hp} {g : Tg} {e : Nat} {v : Value} {xs : List Value} (h : Row H g e v xs) : ∃ ad cap, v = .slice ad xs.length cap := by
  rcases h with ⟨rfl, rfl⟩ | ⟨b, cap, cur, rfl, _⟩
  · exact ⟨none, 0, rfl⟩
  · exact ⟨_, _, rfl⟩
def sinA (A : AS) (k : Nat) (fd : Int) : AS := if refNewL (row A k) fd = 0 then takeA (nwA (nwSk A) (.sink A.sk.length)) k fd A.th.length else A
def sinN (A : AS) (k : Nat) (fd : Int) : Nat := if refNewL (row A k) fd = 0 then A.sk.length + 1 else 0
theorem one_ptr (p : Option Addr) : ∀ u ∈ [Value.pointer p], u.oneCell' = true := fun u hu => by rw [List.mem_singleton.1 hu]; rfl
theorem und_sinks : Tryz.prog.underlying 79 = some (.slice 106) := by kernel_rfl
set_option maxRecDepth 20000 in
set_option maxHeartbeats 8000000 in
theorem ssink_any {w : World} {f q nb n x : Nat} {B : Bas} {Z : Nat → Prop} {A : AS} {sb : List Nat} {H : Hp} {L : Fay} (F : FH w f q Z A nb n B x sb H L) {k b : Nat} {l : List (Option Nat)} (hb : sb[k]? = some b) (hl : A.st[k]? = some l) (K : AOk A n) (hn : n ≤ 9000) (fd : Int) : Calls Tryz.prog 23 #[.pointer (some ⟨b, 0, none⟩), .int .i64 fd] w fun e w' => e = .returned (.tuple #[.int .i64 (sinN A k fd : Int), .int .i64 (refNewL (row A k) fd)]) ∧ Hid (∃ H' L', FH w' f q Z (sinA A k fd) nb (n + 3) B x sb H' L' ∧ AOk (sinA A k fd) (n + 3)) := by
  obtain ⟨c0, c1, f1, hblk, hl16⟩ := F.setCell hb hl
  have HR := hide (srefusenew_any hblk hl16 fd)
  unfold sinA sinN
  rw [row_at hl]
  obtain ⟨E, hE⟩ : ∃ E, E = refNewL l fd := ⟨_, rfl⟩
  rw [← hE] at HR ⊢
  by_cases h0 : E = 0
  · obtain ⟨j, rfl, hj, hlj⟩ := refNew_ok (hE ▸ h0) hl16
    obtain ⟨v, hx, hrow⟩ := F.li.fil
    have hn1 := F.mx.noth (Nat.le_refl _)
    have he := upd_new hn1 ⟨.sink A.sk.length, 113, #[.pointer none, .slice none 0 0]⟩
    have M1 := F.mx.more (.sink A.sk.length) 113 #[.pointer none, .slice none 0 0]
    have hrow1 := hrow.tag (fun b o h _ => he b o h)
    have hx1 := he _ _ hx
    have hb1 := he _ _ (F.li.st k b l hb hl).1
    have hto := upd_self H w.heap.size ⟨.sink A.sk.length, 113, #[.pointer none, .slice none 0 0]⟩
    obtain ⟨H1, hH1⟩ : ∃ H1, H1 = upd H w.heap.size ⟨.sink A.sk.length, 113, #[.pointer none, .slice none 0 0]⟩ := ⟨_, rfl⟩
    rw [← hH1] at M1 hrow1 hx1 hb1 hto he
    obtain ⟨W1, hW1⟩ : ∃ W1, W1 = w.alloc (.cells #[.pointer none, .slice none 0 0] 113) := ⟨_, rfl⟩
    rw [← hW1] at M1
    have hxl : ((List.range A.sk.length).map (fun k => ptrV (L.kb k))).length = A.sk.length := by simp
    have hBD : Below W1.heap.size W1 W1.drew := below_drew W1 1
    have hBB : Below W1.heap.size W1 (W1.drew.alloc (.cells #[ptrV w.heap.size] 106)) := hBD.alloc (Nat.le_refl _) _
    have HOWN : Hid ((W1.drew.alloc (.cells #[.pointer (some ⟨w.heap.size, 0, none⟩)] 106)).ownsRow 0 106 1 v A.sk.length ((List.range A.sk.length).map (fun k => ptrV (L.kb k)))) := hide (by
      have := hrow1.owns (M1.below hBB)
      rw [hxl] at this
      exact this)
    have K1 := ok_nwSk K
    have K2 := ok_new K1 (y := .sink A.sk.length) (by show A.sk.length < (A.sk ++ [_]).length; simp)
    have hTk : takeA (nwA (nwSk A) (.sink A.sk.length)) k (j : Int) A.th.length = takeA (nwA (nwSk A) (.sink A.sk.length)) k (j : Int) (nwSk A).th.length := rfl
    have HST : Hid (∀ (w3 : World) (g cap : Nat), (W1.drew.alloc (.cells #[.pointer (some ⟨w.heap.size, 0, none⟩)] 106)).grownBy w3 v.ownBlock → w3.ownsRow 0 106 1 (.slice (some ⟨g, 0, none⟩) (A.sk.length + 1) cap) (A.sk.length + 1) ((List.range A.sk.length).map (fun k => ptrV (L.kb k)) ++ [.pointer (some ⟨w.heap.size, 0, none⟩)]) → (v.ownBlock = some g ∨ g = (W1.drew.alloc (.cells #[.pointer (some ⟨w.heap.size, 0, none⟩)] 106)).heap.size) → w3.cell? ⟨b, 0, none⟩ = some (.pointer (some ⟨x, 0, none⟩)) ∧ w3.cell? ⟨x, 2, none⟩ = some v ∧ w3.frozen? ⟨x, 2, none⟩ = false ∧ Hid (∃ H4, MX (w3.setCell ⟨x, 2, none⟩ (.slice (some ⟨g, 0, none⟩) (A.sk.length + 1) cap)) f q Z A.s nb n B H4 ∧ Lies H4 f x (L.addK A.sk.length w.heap.size) sb (nwSk A) (openA A))) := hide (fun w3 g cap hg ho hat => by
      have hyl : ((List.range A.sk.length).map (fun k => ptrV (L.kb k)) ++ [ptrV w.heap.size]).length = A.sk.length + 1 := by simp
      have ho2 : w3.ownsRow 0 106 1 (.slice (some ⟨g, 0, none⟩) ((List.range A.sk.length).map (fun k => ptrV (L.kb k)) ++ [ptrV w.heap.size]).length cap) ((List.range A.sk.length).map (fun k => ptrV (L.kb k)) ++ [ptrV w.heap.size]).length ((List.range A.sk.length).map (fun k => ptrV (L.kb k)) ++ [ptrV w.heap.size]) := by
        rw [hyl]; exact ho
      obtain ⟨H2, M2, r2, k2⟩ := M1.rowGrow hrow1 hBB hg ho2 (hat.imp id (fun e => Nat.le_of_eq e.symm))
      rw [hyl] at r2
      have x2 := k2 _ _ hx1 (by simp)
      have b2 := M2.blk _ _ (k2 _ _ hb1 (by simp))
      have x3 := M2.blk _ _ x2
      refine ⟨b2.cell 0 rfl, x3.cell 2 rfl, x3.frozen 2, hide ⟨_, M2.set x2 2 _, ?_⟩⟩
      refine F.li.newSk K.wh (fun c o hc h1 h2 => ?_) (upd_at x2 (k2 _ _ hto (by simp)) (by simp)) (v := .slice (some ⟨g, 0, none⟩) (A.sk.length + 1) cap) (upd_self _ _ _) (r2.tag (upd_tag x2 (by simp)))
      exact upd_at x2 (k2 c o (he c o hc) h1) (fun e => h2 e.symm))
    have HT : Hid (∀ w4, (∃ H4, MX w4 f q Z A.s nb n B H4 ∧ Lies H4 f x (L.addK A.sk.length w.heap.size) sb (nwSk A) (openA A)) → Calls Tryz.prog 34 #[.pointer (some ⟨b, 0, none⟩), .int .i64 (j : Int), .pointer (some ⟨w4.heap.size, 0, none⟩)] (w4.alloc (.cells #[.iface 106 (.pointer (some ⟨w.heap.size, 0, none⟩)), .int .i64 0] 98)) fun e w' => e = .returned (.tuple #[]) ∧ ∃ ad cap, w'.cell? ⟨b, 0, none⟩ = some (.pointer (some ⟨x, 0, none⟩)) ∧ w'.cell? ⟨x, 2, none⟩ = some (.slice ad (A.sk.length + 1) cap) ∧ Hid (∃ H' L', FH w' f q Z (takeA (nwA (nwSk A) (.sink A.sk.length)) k (j : Int) A.th.length) nb (n + 3) B x sb H' L' ∧ AOk (takeA (nwA (nwSk A) (.sink A.sk.length)) k (j : Int) A.th.length) (n + 3))) := hide (fun w4 h4 => by
      obtain ⟨H4, M4, L4⟩ := h4
      have F2 := FH.newTh (A := nwSk A) M4 L4 K1.row (y := .sink A.sk.length) (ob := 0) (v := .iface 106 (.pointer (some ⟨w.heap.size, 0, none⟩))) (by simp [itf, Fay.add, Fay.addK, ptrV]) trivial
      have := ftake_any F2 hb hl hj (nw_get (nwSk A) _) (Nat.zero_le _) (by have := K2.open; omega)
      rw [show ((L.addK A.sk.length w.heap.size).add (nwSk A).th.length w4.heap.size 0).tb (nwSk A).th.length = w4.heap.size by simp [Fay.add]] at this
      refine this.mono (fun e w' h => ⟨h.1, ?_⟩)
      obtain ⟨H', F3⟩ := unhide h.2
      obtain ⟨v', e1, e2⟩ := F3.li.fil
      obtain ⟨ad, cap, e3⟩ := e2.slice
      have e4 : ((List.range (takeA (nwA (nwSk A) (.sink A.sk.length)) k (j : Int) (nwSk A).th.length).sk.length).map (fun k_1 => ptrV (((L.addK A.sk.length w.heap.size).add (nwSk A).th.length w4.heap.size 0).kb k_1))).length = A.sk.length + 1 := by
        rw [List.length_map, List.length_range]
        unfold takeA
        rw [nw_get]
        dsimp only
        show (manyA (nwA (nwSk A) _) _ _).sk.length = _
        rw [(many_len _ _ _).2.1]
        show (A.sk ++ [_]).length = _
        simp
      rw [e4] at e3
      have hst3 : (takeA (nwA (nwSk A) (.sink A.sk.length)) k (j : Int) (nwSk A).th.length).st[k]? = some (l.set j (some (nwSk A).th.length)) := by
        unfold takeA
        rw [nw_get]
        dsimp only
        unfold putA row
        have hm : (manyA (nwA (nwSk A) (.sink A.sk.length)) (nwSk A).th.length (0 + 1)).st = A.st := (row_many _ _ _).1
        dsimp only
        rw [hm, hl, show (j : Int).toNat = j by omega]
        exact List.getElem?_set_self (List.getElem?_eq_some_iff.1 hl).1
      subst e3
      exact ⟨ad, cap, (F3.setCell hb hst3).1, (F3.mx.blk _ _ e1).cell 2 rfl, hide ⟨H', _, F3.mono (by omega), ok_take K2 hl hlj (nw_get (nwSk A) _)⟩⟩)
    have hK : A.sk.length ≤ 9000 := Nat.le_trans K.sks hn
    have y0 : W1.cell? ⟨b, 0, none⟩ = some (.pointer (some ⟨x, 0, none⟩)) := (M1.blk _ _ hb1).cell 0 rfl
    have y1 : W1.drew.cell? ⟨b, 0, none⟩ = some (.pointer (some ⟨x, 0, none⟩)) := ((M1.below hBD).blk _ _ hb1).cell 0 rfl
    have y2 : (W1.drew.alloc (.cells #[.pointer (some ⟨w.heap.size, 0, none⟩)] 106)).cell? ⟨b, 0, none⟩ = some (.pointer (some ⟨x, 0, none⟩)) := ((M1.below hBB).blk _ _ hb1).cell 0 rfl
    have y3 : W1.drew.cell? ⟨x, 2, none⟩ = some v := ((M1.below hBD).blk _ _ hx1).cell 2 rfl
    have y4 : (W1.drew.alloc (.cells #[.pointer (some ⟨w.heap.size, 0, none⟩)] 106)).cell? ⟨x, 2, none⟩ = some v := ((M1.below hBB).blk _ _ hx1).cell 2 rfl
    have y6 : (W1.alloc (.cells #[.pointer (some ⟨w.heap.size, 0, none⟩)] 106)).cell? ⟨x, 2, none⟩ = some v := ((M1.below (below_al W1 _ _)).blk _ _ hx1).cell 2 rfl
    have hbx : b ≠ x := tag_ne hb1 hx1 (by simp)
    obtain ⟨i0, hi, hz0, hz1, hz2⟩ := info2 (t := 106) (z := some (.pointer none)) (a := 1) (c := 8) (by kernel_rfl)
    have hvs : ∃ ad cap, v = .slice ad A.sk.length cap := by
      obtain ⟨ad, cap, h⟩ := hrow.slice
      rw [hxl] at h
      exact ⟨ad, cap, h⟩
    obtain ⟨va, vc, rfl⟩ := hvs
    --walk
    rw [if_pos h0, if_pos h0]
    obtain ⟨AT, hAT⟩ : ∃ AT, AT = takeA (nwA (nwSk A) (.sink A.sk.length)) k (j : Int) A.th.length := ⟨_, rfl⟩
    obtain ⟨LK, hLK⟩ : ∃ LK, LK = L.addK A.sk.length w.heap.size := ⟨_, rfl⟩
    obtain ⟨AK, hAK⟩ : ∃ AK, AK = nwSk A := ⟨_, rfl⟩
    obtain ⟨OA, hOA⟩ : ∃ OA, OA = openA A := ⟨_, rfl⟩
    obtain ⟨tob, hto2⟩ : ∃ tob, tob = w.heap.size := ⟨_, rfl⟩
    obtain ⟨xs, hxs⟩ : ∃ xs, xs = (List.range A.sk.length).map (fun k => ptrV (L.kb k)) := ⟨_, rfl⟩
    obtain ⟨N, hN⟩ : ∃ N, N = A.sk.length := ⟨_, rfl⟩
    rw [← hAT] at HT ⊢
    rw [← hLK, ← hAK, ← hOA] at HT HST
    rw [← hxs] at HOWN HST
    rw [← hto2] at HOWN HST HT y2 y4 y6
    rw [← hN] at HOWN HST HT y3 y4 y6 hK ⊢
    have hl : AK.st[k]? = some l := by rw [hAK]; exact hl
    clear F K c0 c1 f1 hblk hl16 hlj hn1 he hx hx1 hrow hrow1 hb1 hto M1 hH1 hxl hBB hBD K1 K2 hTk y0 hE hAT hLK hAK hOA hxs hN
    subst h0
    go_enter Tryz.func23, Tryz.ntmps23
    go_wp2_with fail
    refine (unhide HR).mono ?_
    rintro e w1 ⟨rfl, hw⟩
    subst hw
    clear HR
    go_upto_region 5 with fail
    rw [← hto2, ← hW1]
    clear hto2 hW1
    refine wp_region_held_drew (S := fun w' => w'.cell? ⟨b, 0, none⟩ = some (.pointer (some ⟨x, 0, none⟩))) (by kernel_rfl) y1 (fun hHeld => ?_)
    refine wpAnyH_take (i := 0) (oi := { dst := some 16, op := Op.move (Operand.tmp 0), type := 25, pos := "fds.go:72", after := #[], guard := none }) (v := ?_) rfl (by kernel_rfl) (by kernel_rfl) (by kernel_rfl) (fun _ _ _ h => h) (Or.inl ⟨by rfl, ?_⟩) (by assumption) ?_
    rotate_left
    · intro w hSw; (try dsimp only at hSw); go_simp; (try with_reducible rfl)
    simp only [Act.put, List.setIfInBounds_toArray, List.set_cons_zero, List.set_cons_succ]
    refine wpAnyH_take (i := 1) (oi := { dst := some 17, op := Op.nilCheck (Operand.tmp 16), type := 0, pos := "fds.go:72", after := #[{ on := 0, ground := Ground.data }], guard := none }) (v := ?_) rfl (by kernel_rfl) (by kernel_rfl) (by kernel_rfl) (fun _ _ _ h => h) (Or.inl ⟨by rfl, ?_⟩) (by assumption) ?_
    rotate_left
    · intro w hSw; (try dsimp only at hSw); go_simp; (try with_reducible rfl)
    simp only [Act.put, List.setIfInBounds_toArray, List.set_cons_zero, List.set_cons_succ]
    refine wpAnyH_take (i := 2) (oi := { dst := some 18, op := Op.fieldAddr 76 (Operand.tmp 17) 0, type := 0, pos := "fds.go:72", after := #[{ on := 1, ground := Ground.data }], guard := none }) (v := ?_) rfl (by kernel_rfl) (by kernel_rfl) (by kernel_rfl) (fun _ _ _ h => h) (Or.inl ⟨by rfl, ?_⟩) (by assumption) ?_
    rotate_left
    · intro w hSw; (try dsimp only at hSw); go_simp; (try with_reducible rfl)
    simp only [Act.put, List.setIfInBounds_toArray, List.set_cons_zero, List.set_cons_succ]
    refine wpAnyH_take (i := 3) (oi := { dst := some 19, op := Op.load 24 (Operand.tmp 18), type := 24, pos := "fds.go:72", after := #[{ on := 2, ground := Ground.data }], guard := none }) (v := ?_) rfl (by kernel_rfl) (by kernel_rfl) (by kernel_rfl) (fun _ _ _ h => h) (Or.inl ⟨by rfl, ?_⟩) (by assumption) ?_
    rotate_left
    · intro w hSw; (try dsimp only at hSw); go_simp; (try with_reducible rfl)
    simp only [Act.put, List.setIfInBounds_toArray, List.set_cons_zero, List.set_cons_succ]
    refine wpAnyH_take (i := 4) (oi := { dst := some 20, op := Op.move (Operand.tmp 0), type := 25, pos := "fds.go:72", after := #[], guard := none }) (v := ?_) rfl (by kernel_rfl) (by kernel_rfl) (by kernel_rfl) (fun _ _ _ h => h) (Or.inl ⟨by rfl, ?_⟩) (by assumption) ?_
    rotate_left
    · intro w hSw; (try dsimp only at hSw); go_simp; (try with_reducible rfl)
    simp only [Act.put, List.setIfInBounds_toArray, List.set_cons_zero, List.set_cons_succ]
    refine wpAnyH_take (i := 5) (oi := { dst := some 21, op := Op.nilCheck (Operand.tmp 20), type := 0, pos := "fds.go:72", after := #[{ on := 4, ground := Ground.data }], guard := none }) (v := ?_) rfl (by kernel_rfl) (by kernel_rfl) (by kernel_rfl) (fun _ _ _ h => h) (Or.inl ⟨by rfl, ?_⟩) (by assumption) ?_
    rotate_left
    · intro w hSw; (try dsimp only at hSw); go_simp; (try with_reducible rfl)
    simp only [Act.put, List.setIfInBounds_toArray, List.set_cons_zero, List.set_cons_succ]
    refine wpAnyH_take (i := 6) (oi := { dst := some 22, op := Op.fieldAddr 76 (Operand.tmp 21) 0, type := 0, pos := "fds.go:72", after := #[{ on := 5, ground := Ground.data }], guard := none }) (v := ?_) rfl (by kernel_rfl) (by kernel_rfl) (by kernel_rfl) (fun _ _ _ h => h) (Or.inl ⟨by rfl, ?_⟩) (by assumption) ?_
    rotate_left
    · intro w hSw; (try dsimp only at hSw); go_simp; (try with_reducible rfl)
    simp only [Act.put, List.setIfInBounds_toArray, List.set_cons_zero, List.set_cons_succ]
    refine wpAnyH_take (i := 7) (oi := { dst := some 23, op := Op.load 24 (Operand.tmp 22), type := 24, pos := "fds.go:72", after := #[{ on := 6, ground := Ground.data }], guard := none }) (v := ?_) rfl (by kernel_rfl) (by kernel_rfl) (by kernel_rfl) (fun _ _ _ h => h) (Or.inl ⟨by rfl, ?_⟩) (by assumption) ?_
    rotate_left
    · intro w hSw; (try dsimp only at hSw); go_simp; (try with_reducible rfl)
    simp only [Act.put, List.setIfInBounds_toArray, List.set_cons_zero, List.set_cons_succ]
    refine wpAnyH_take (i := 8) (oi := { dst := some 24, op := Op.nilCheck (Operand.tmp 23), type := 0, pos := "fds.go:72", after := #[{ on := 7, ground := Ground.data }], guard := none }) (v := ?_) rfl (by kernel_rfl) (by kernel_rfl) (by kernel_rfl) (fun _ _ _ h => h) (Or.inl ⟨by rfl, ?_⟩) (by assumption) ?_
    rotate_left
    · intro w hSw; (try dsimp only at hSw); go_simp; (try with_reducible rfl)
    simp only [Act.put, List.setIfInBounds_toArray, List.set_cons_zero, List.set_cons_succ]
    refine wpAnyH_take (i := 9) (oi := { dst := some 25, op := Op.fieldAddr 81 (Operand.tmp 24) 2, type := 0, pos := "fds.go:72", after := #[{ on := 8, ground := Ground.data }], guard := none }) (v := ?_) rfl (by kernel_rfl) (by kernel_rfl) (by kernel_rfl) (fun _ _ _ h => h) (Or.inl ⟨by rfl, ?_⟩) (by assumption) ?_
    rotate_left
    · intro w hSw; (try dsimp only at hSw); go_simp; (try with_reducible rfl)
    simp only [Act.put, List.setIfInBounds_toArray, List.set_cons_zero, List.set_cons_succ]
    refine wpAnyH_take (i := 11) (oi := { dst := some 27, op := Op.move (Operand.tmp 7), type := 106, pos := "fds.go:72", after := #[], guard := none }) (v := ?_) rfl (by kernel_rfl) (by kernel_rfl) (by kernel_rfl) (fun _ _ _ h => h) (Or.inl ⟨by rfl, ?_⟩) (by assumption) ?_
    rotate_left
    · intro w hSw; (try dsimp only at hSw); go_simp; (try with_reducible rfl)
    simp only [Act.put, List.setIfInBounds_toArray, List.set_cons_zero, List.set_cons_succ]
    refine wpAnyH_ready (rs := [10, 12]) (by kernel_rfl) (by simp) ?_
    refine AllReadyH.cons (o := { dst := some 26, op := Op.load 79 (Operand.tmp 25), type := 79, pos := "fds.go:72", after := #[{ on := 9, ground := Ground.data }], guard := none }) rfl (fun KK hKK => ?_) (AllReadyH.cons (o := { dst := some 28, op := Op.buildSlice 79 1 #[(0, Operand.tmp 27)], type := 79, pos := "fds.go:72", after := #[{ on := 11, ground := Ground.data }], guard := none }) rfl (fun KK hKK => ?_) AllReadyH.nil)
    focus
      go_simp
      refine hKK.out _ _ y1 (fun hHeld => ?_)
      clear hKK KK
      try simp only [Act.put, List.setIfInBounds_toArray, List.set_cons_zero, List.set_cons_succ]
      refine wpAnyH_ready (rs := [12]) (by kernel_rfl) (by simp) ?_
      refine AllReadyH.cons (o := { dst := some 28, op := Op.buildSlice 79 1 #[(0, Operand.tmp 27)], type := 79, pos := "fds.go:72", after := #[{ on := 11, ground := Ground.data }], guard := none }) rfl (fun KK hKK => ?_) AllReadyH.nil
      go_simp
      refine hKK.out _ _ y2 (fun hHeld => ?_)
      clear hKK KK
      try simp only [Act.put, List.setIfInBounds_toArray, List.set_cons_zero, List.set_cons_succ]
      refine wpAnyH_ready (rs := [13]) (by kernel_rfl) (by simp) ?_
      refine AllReadyH.cons (o := { dst := some 29, op := Op.call { callee := Callee.builtin Builtin.append, args := #[Operand.tmp 26, Operand.tmp 28], argTypes := #[79, 79] }, type := 79, pos := "fds.go:72", after := #[{ on := 10, ground := Ground.data }, { on := 12, ground := Ground.data }], guard := none }) rfl (fun KK hKK => ?_) AllReadyH.nil
      refine step_append_lies _ rfl _ _ 79 rfl 0 106 i0 _ 1 8 und_sinks hi hz0 hz1 hz2 rfl (by decide) (.slice va N vc) N xs (by simp [Act.eval]) (unhide HOWN) ⟨W1.drew.heap.size, 0, none⟩ 1 1 [.pointer (some ⟨tob, 0, none⟩)] (by simp [Act.eval]) rfl (cell_one_new W1.drew (.pointer (some ⟨tob, 0, none⟩)) 106) (one_ptr _) (by decide) (by unfold maxLen; omega) (by omega) (Nat.zero_le _) _ rfl ?_
      intro g cap w3 hown hgrow hat hlt
      obtain ⟨z0, z1, z2, HFC⟩ := unhide HST w3 g cap hgrow hown hat
      have z3 : (w3.setCell ⟨x, 2, none⟩ (.slice (some ⟨g, 0, none⟩) (N + 1) cap)).cell? ⟨b, 0, none⟩ = some (.pointer (some ⟨x, 0, none⟩)) := by rw [World.cell?_setCell_far _ _ _ _ (fun e => hbx e.symm)]; exact z0
      clear hown hgrow hat hlt
      refine hKK.out _ _ z0 (fun hHeld => ?_)
      clear hKK KK
      try simp only [Act.put, List.setIfInBounds_toArray, List.set_cons_zero, List.set_cons_succ]
      refine wpAnyH_take (i := 14) (oi := { dst := some 30, op := Op.nilCheck (Operand.tmp 19), type := 0, pos := "fds.go:72", after := #[{ on := 3, ground := Ground.data }, { on := 0, ground := Ground.phase }, { on := 1, ground := Ground.phase }, { on := 2, ground := Ground.phase }, { on := 3, ground := Ground.phase }, { on := 4, ground := Ground.phase }, { on := 5, ground := Ground.phase }, { on := 6, ground := Ground.phase }, { on := 7, ground := Ground.phase }, { on := 8, ground := Ground.phase }, { on := 9, ground := Ground.phase }, { on := 10, ground := Ground.phase }, { on := 11, ground := Ground.phase }, { on := 12, ground := Ground.phase }, { on := 13, ground := Ground.phase }], guard := none }) (v := ?_) rfl (by kernel_rfl) (by kernel_rfl) (by kernel_rfl) (fun _ _ _ h => h) (Or.inl ⟨by rfl, ?_⟩) (by assumption) ?_
      rotate_left
      · intro w hSw; (try dsimp only at hSw); go_simp; (try with_reducible rfl)
      simp only [Act.put, List.setIfInBounds_toArray, List.set_cons_zero, List.set_cons_succ]
      refine wpAnyH_take (i := 15) (oi := { dst := some 31, op := Op.fieldAddr 81 (Operand.tmp 30) 2, type := 0, pos := "fds.go:72", after := #[{ on := 14, ground := Ground.data }, { on := 0, ground := Ground.phase }, { on := 1, ground := Ground.phase }, { on := 2, ground := Ground.phase }, { on := 3, ground := Ground.phase }, { on := 4, ground := Ground.phase }, { on := 5, ground := Ground.phase }, { on := 6, ground := Ground.phase }, { on := 7, ground := Ground.phase }, { on := 8, ground := Ground.phase }, { on := 9, ground := Ground.phase }, { on := 10, ground := Ground.phase }, { on := 11, ground := Ground.phase }, { on := 12, ground := Ground.phase }, { on := 13, ground := Ground.phase }], guard := none }) (v := ?_) rfl (by kernel_rfl) (by kernel_rfl) (by kernel_rfl) (fun _ _ _ h => h) (Or.inl ⟨by rfl, ?_⟩) (by assumption) ?_
      rotate_left
      · intro w hSw; (try dsimp only at hSw); go_simp; (try with_reducible rfl)
      simp only [Act.put, List.setIfInBounds_toArray, List.set_cons_zero, List.set_cons_succ]
      refine wpAnyH_ready (rs := [16]) (by kernel_rfl) (by simp) ?_
      refine AllReadyH.cons (o := { dst := none, op := Op.store 79 (Operand.tmp 31) (Operand.tmp 29), type := 0, pos := "fds.go:72", after := #[{ on := 15, ground := Ground.data }, { on := 13, ground := Ground.data }, { on := 13, ground := Ground.chain }, { on := 0, ground := Ground.phase }, { on := 1, ground := Ground.phase }, { on := 2, ground := Ground.phase }, { on := 3, ground := Ground.phase }, { on := 4, ground := Ground.phase }, { on := 5, ground := Ground.phase }, { on := 6, ground := Ground.phase }, { on := 7, ground := Ground.phase }, { on := 8, ground := Ground.phase }, { on := 9, ground := Ground.phase }, { on := 10, ground := Ground.phase }, { on := 11, ground := Ground.phase }, { on := 12, ground := Ground.phase }, { on := 13, ground := Ground.phase }], guard := none }) rfl (fun KK hKK => ?_) AllReadyH.nil
      go_simp
      refine hKK.out _ _ z3 (fun hHeld => ?_)
      clear hKK KK
      try simp only [Act.put, List.setIfInBounds_toArray, List.set_cons_zero, List.set_cons_succ]
      clear hHeld
      refine wpAnyH_done (by kernel_rfl) ?_ _
    rotate_left
    focus
      go_simp
      refine hKK.out _ _ y2 (fun hHeld => ?_)
      clear hKK KK
      try simp only [Act.put, List.setIfInBounds_toArray, List.set_cons_zero, List.set_cons_succ]
      refine wpAnyH_ready (rs := [10]) (by kernel_rfl) (by simp) ?_
      refine AllReadyH.cons (o := { dst := some 26, op := Op.load 79 (Operand.tmp 25), type := 79, pos := "fds.go:72", after := #[{ on := 9, ground := Ground.data }], guard := none }) rfl (fun KK hKK => ?_) AllReadyH.nil
      go_simp
      refine hKK.out _ _ y2 (fun hHeld => ?_)
      clear hKK KK
      try simp only [Act.put, List.setIfInBounds_toArray, List.set_cons_zero, List.set_cons_succ]
      refine wpAnyH_ready (rs := [13]) (by kernel_rfl) (by simp) ?_
      refine AllReadyH.cons (o := { dst := some 29, op := Op.call { callee := Callee.builtin Builtin.append, args := #[Operand.tmp 26, Operand.tmp 28], argTypes := #[79, 79] }, type := 79, pos := "fds.go:72", after := #[{ on := 10, ground := Ground.data }, { on := 12, ground := Ground.data }], guard := none }) rfl (fun KK hKK => ?_) AllReadyH.nil
      refine step_append_lies _ rfl _ _ 79 rfl 0 106 i0 _ 1 8 und_sinks hi hz0 hz1 hz2 rfl (by decide) (.slice va N vc) N xs (by simp [Act.eval]) (unhide HOWN) ⟨W1.drew.heap.size, 0, none⟩ 1 1 [.pointer (some ⟨tob, 0, none⟩)] (by simp [Act.eval]) rfl (cell_one_new W1.drew (.pointer (some ⟨tob, 0, none⟩)) 106) (one_ptr _) (by decide) (by unfold maxLen; omega) (by omega) (Nat.zero_le _) _ rfl ?_
      intro g cap w3 hown hgrow hat hlt
      obtain ⟨z0, z1, z2, HFC⟩ := unhide HST w3 g cap hgrow hown hat
      have z3 : (w3.setCell ⟨x, 2, none⟩ (.slice (some ⟨g, 0, none⟩) (N + 1) cap)).cell? ⟨b, 0, none⟩ = some (.pointer (some ⟨x, 0, none⟩)) := by rw [World.cell?_setCell_far _ _ _ _ (fun e => hbx e.symm)]; exact z0
      clear hown hgrow hat hlt
      refine hKK.out _ _ z0 (fun hHeld => ?_)
      clear hKK KK
      try simp only [Act.put, List.setIfInBounds_toArray, List.set_cons_zero, List.set_cons_succ]
      refine wpAnyH_take (i := 14) (oi := { dst := some 30, op := Op.nilCheck (Operand.tmp 19), type := 0, pos := "fds.go:72", after := #[{ on := 3, ground := Ground.data }, { on := 0, ground := Ground.phase }, { on := 1, ground := Ground.phase }, { on := 2, ground := Ground.phase }, { on := 3, ground := Ground.phase }, { on := 4, ground := Ground.phase }, { on := 5, ground := Ground.phase }, { on := 6, ground := Ground.phase }, { on := 7, ground := Ground.phase }, { on := 8, ground := Ground.phase }, { on := 9, ground := Ground.phase }, { on := 10, ground := Ground.phase }, { on := 11, ground := Ground.phase }, { on := 12, ground := Ground.phase }, { on := 13, ground := Ground.phase }], guard := none }) (v := ?_) rfl (by kernel_rfl) (by kernel_rfl) (by kernel_rfl) (fun _ _ _ h => h) (Or.inl ⟨by rfl, ?_⟩) (by assumption) ?_
      rotate_left
      · intro w hSw; (try dsimp only at hSw); go_simp; (try with_reducible rfl)
      simp only [Act.put, List.setIfInBounds_toArray, List.set_cons_zero, List.set_cons_succ]
      refine wpAnyH_take (i := 15) (oi := { dst := some 31, op := Op.fieldAddr 81 (Operand.tmp 30) 2, type := 0, pos := "fds.go:72", after := #[{ on := 14, ground := Ground.data }, { on := 0, ground := Ground.phase }, { on := 1, ground := Ground.phase }, { on := 2, ground := Ground.phase }, { on := 3, ground := Ground.phase }, { on := 4, ground := Ground.phase }, { on := 5, ground := Ground.phase }, { on := 6, ground := Ground.phase }, { on := 7, ground := Ground.phase }, { on := 8, ground := Ground.phase }, { on := 9, ground := Ground.phase }, { on := 10, ground := Ground.phase }, { on := 11, ground := Ground.phase }, { on := 12, ground := Ground.phase }, { on := 13, ground := Ground.phase }], guard := none }) (v := ?_) rfl (by kernel_rfl) (by kernel_rfl) (by kernel_rfl) (fun _ _ _ h => h) (Or.inl ⟨by rfl, ?_⟩) (by assumption) ?_
      rotate_left
      · intro w hSw; (try dsimp only at hSw); go_simp; (try with_reducible rfl)
      simp only [Act.put, List.setIfInBounds_toArray, List.set_cons_zero, List.set_cons_succ]
      refine wpAnyH_ready (rs := [16]) (by kernel_rfl) (by simp) ?_
      refine AllReadyH.cons (o := { dst := none, op := Op.store 79 (Operand.tmp 31) (Operand.tmp 29), type := 0, pos := "fds.go:72", after := #[{ on := 15, ground := Ground.data }, { on := 13, ground := Ground.data }, { on := 13, ground := Ground.chain }, { on := 0, ground := Ground.phase }, { on := 1, ground := Ground.phase }, { on := 2, ground := Ground.phase }, { on := 3, ground := Ground.phase }, { on := 4, ground := Ground.phase }, { on := 5, ground := Ground.phase }, { on := 6, ground := Ground.phase }, { on := 7, ground := Ground.phase }, { on := 8, ground := Ground.phase }, { on := 9, ground := Ground.phase }, { on := 10, ground := Ground.phase }, { on := 11, ground := Ground.phase }, { on := 12, ground := Ground.phase }, { on := 13, ground := Ground.phase }], guard := none }) rfl (fun KK hKK => ?_) AllReadyH.nil
      go_simp
      refine hKK.out _ _ z3 (fun hHeld => ?_)
      clear hKK KK
      try simp only [Act.put, List.setIfInBounds_toArray, List.set_cons_zero, List.set_cons_succ]
      clear hHeld
      refine wpAnyH_done (by kernel_rfl) ?_ _
    rotate_left
    all_goals
      clear y1 y2 y3 y4 y6 z0 z1 z2 z3 HOWN HST
      have HT4 := hide (unhide HT _ (unhide HFC))
      obtain ⟨w4, hw4⟩ : ∃ w4, w4 = w3.setCell ⟨x, 2, none⟩ (.slice (some ⟨g, 0, none⟩) (N + 1) cap) := ⟨_, rfl⟩
      rw [← hw4] at HT4 HFC ⊢
      have z5 : w4.cell? ⟨b, 0, none⟩ = some (.pointer (some ⟨x, 0, none⟩)) := by
        obtain ⟨H4, M4, L4⟩ := unhide HFC
        exact (M4.blk _ _ (L4.st k b l hb hl).1).cell 0 rfl
      clear hw4 HFC HT hb hl
      go_wp2_with fail
      refine (unhide HT4).mono ?_
      rintro e w5 ⟨rfl, ad5, cap5, z6, z7, HF⟩
      clear HT4
      go_wp2_with fail
      go_ret2
      exact ⟨rfl, HF⟩
    --end
  · have hE1 : (E != 0) = true := by simpa using h0
    rw [if_neg h0, if_neg h0]
    have HF : Hid (∃ H' L', FH w f q Z A nb (n + 3) B x sb H' L' ∧ AOk A (n + 3)) := hide ⟨H, L, F.mono (by omega), K.mono (by omega)⟩
    clear F hb hl K c0 c1 f1 hblk hl16 hE h0
    go_enter Tryz.func23, Tryz.ntmps23
    go_wp2_with fail
    refine (unhide HR).mono ?_
    rintro e w1 ⟨rfl, hw⟩
    subst hw
    go_wp2_with fail
    go_ret2
    exact ⟨rfl, HF⟩

end Go.Proofs.YtemologkibcdoaaGreatDoor

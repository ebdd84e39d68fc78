/-
  Numbers of open files in memory: blocks that are known whole beside a tree.
  How all that is open lies in blocks, and what becomes of that when things are taken, dropped, made.
-/
import Derived.Test.YtemologkibcdoaaGreatDoorM30

/- Numbers of open files in memory: blocks that are known whole beside a tree. -/
namespace Go.Proofs.YtemologkibcdoaaGreatDoor
open Go.RowKit Go.Maps

/-- What a block is. -/
inductive Tg where
  | files | set (k : Nat) | thing (i : Nat) | obj (i : Nat) | pipe (p : Nat) | sink (k : Nat) | buf (k : Nat) | row
structure Cel where
  tg : Tg
  ty : Nat
  cs : Array Value
abbrev Hp := Nat → Option Cel
def upd (H : Hp) (b : Nat) (o : Cel) : Hp := fun k => if k = b then some o else H k
theorem upd_self (H : Hp) (b : Nat) (o : Cel) : upd H b o b = some o := if_pos rfl
theorem upd_ne (H : Hp) {b k : Nat} (o : Cel) (h : k ≠ b) : upd H b o k = H k := if_neg h
theorem upd_none {H : Hp} {b : Nat} {o o' : Cel} (h : H b = some o) (k : Nat) : upd H b o' k = none ↔ H k = none := by
  unfold upd
  split
  · rename_i e
    subst e
    rw [h]
    simp
  · exact Iff.rfl
/-- The blocks that are the tree's. -/
def Yof (Z : Nat → Prop) (H : Hp) : Nat → Prop := fun k => Z k ∧ H k = none
structure MX (w : World) (f q : Nat) (Z : Nat → Prop) (s : NS) (nb n : Nat) (B : Bas) (H : Hp) : Prop where
  fx : FX w f q (Yof Z H) s nb n B
  blk : ∀ (b : Nat) (o : Cel), H b = some o → Blk w b o.ty o.cs
  out : ∀ (b : Nat) (o : Cel), H b = some o → Z b ∧ b ≠ f
  tn : ∀ k, Z k → B.tn k
theorem Yof_upd {Z : Nat → Prop} {H : Hp} {b : Nat} {o o' : Cel} (h : H b = some o) : Yof Z (upd H b o') = Yof Z H := by
  funext k
  exact propext (and_congr Iff.rfl (upd_none h k))
theorem FX.wide {w : World} {f q nb n : Nat} {B : Bas} {Y Y' : Nat → Prop} {s : NS} (H : FX w f q Y s nb n B) (hY : ∀ k, Y k → Y' k) (hf : ¬ Y' f) (ht : ∀ k, Y' k → B.tn k) : FX w f q Y' s nb n B :=
  ⟨⟨H.nd.at'.mono (fun k _ hk => hY k hk), H.nd.ok, H.nd.env, ht⟩, H.blk, hf, fun k hk => hY k (H.new k hk)⟩
theorem MX.below {w w' : World} {f q nb n : Nat} {B : Bas} {Z : Nat → Prop} {s : NS} {H : Hp} (M : MX w f q Z s nb n B H) (hb : Below w.heap.size w w') : MX w' f q Z s nb n B H :=
  ⟨M.fx.below hb, fun b o h => (M.blk b o h).below hb (M.blk b o h).lt, M.out, M.tn⟩
theorem MX.mono {w : World} {f q nb n n' : Nat} {B : Bas} {Z : Nat → Prop} {s : NS} {H : Hp} (M : MX w f q Z s nb n B H) (h : n ≤ n') : MX w f q Z s nb n' B H := ⟨M.fx.mono h, M.blk, M.out, M.tn⟩
theorem MX.lt {w : World} {f q nb n : Nat} {B : Bas} {Z : Nat → Prop} {s : NS} {H : Hp} (M : MX w f q Z s nb n B H) {b : Nat} {o : Cel} (h : H b = some o) : b < w.heap.size := (M.blk b o h).lt
theorem MX.env {w : World} {f q nb n : Nat} {B : Bas} {Z : Nat → Prop} {s : NS} {H : Hp} (M : MX w f q Z s nb n B H) : EnvB w B := M.fx.nd.env
/-- The blocks S alone have turned, none of them the tree's; each is what H' says. -/
theorem MX.turn {w w' : World} {f q nb n : Nat} {B : Bas} {Z S : Nat → Prop} {s : NS} {H H' : Hp} (M : MX w f q Z s nb n B H) (hg : GrownS w w' S) (hS : ∀ k, S k → ∃ o, H k = some o) (hn : ∀ k, H' k = none ↔ H k = none) (hk : ∀ k, ¬ S k → H' k = H k) (hs : ∀ k o, S k → H' k = some o → Blk w' k o.ty o.cs) : MX w' f q Z s nb n B H' := by
  have hY : Yof Z H' = Yof Z H := funext fun k => propext (and_congr Iff.rfl (hn k))
  have hsz := hg.size
  refine ⟨?_, fun b o h => ?_, fun b o h => ?_, M.tn⟩
  · rw [hY]
    refine ⟨M.fx.nd.grownS hg (fun k _ hk2 hs2 => ?_) (fun k hs2 => ?_), M.fx.blk.grownS hg (fun hs2 => ?_), M.fx.no, fun k hk2 => M.fx.new k (Nat.le_trans hsz hk2)⟩
    · obtain ⟨o, ho⟩ := hS k hs2
      rw [hk2.2] at ho
      cases ho
    · obtain ⟨o, ho⟩ := hS k hs2
      exact M.tn k (M.out k o ho).1
    · obtain ⟨o, ho⟩ := hS f hs2
      exact (M.out f o ho).2 rfl
  · by_cases hs2 : S b
    · exact hs b o hs2 h
    · rw [hk b hs2] at h
      exact (M.blk b o h).grownS hg hs2
  · cases ho : H b with
    | none => rw [(hn b).2 ho] at h; cases h
    | some o2 => exact M.out b o2 ho
/-- One cell of a block is set. -/
theorem MX.set {w : World} {f q nb n : Nat} {B : Bas} {Z : Nat → Prop} {s : NS} {H : Hp} (M : MX w f q Z s nb n B H) {b : Nat} {o : Cel} (h : H b = some o) (i : Nat) (v : Value) : MX (w.setCell ⟨b, i, none⟩ v) f q Z s nb n B (upd H b ⟨o.tg, o.ty, o.cs.setIfInBounds i v⟩) := by
  refine M.turn (S := fun k => k = b) (GrownS.of (grown_setCell w ⟨b, i, none⟩ v) (fun k e => by injection e)) (fun k e => ⟨o, by rw [e]; exact h⟩) (upd_none h) (fun k e => upd_ne _ _ e) (fun k o2 e h2 => ?_)
  subst e
  rw [upd_self] at h2
  injection h2 with h2
  subst h2
  exact (M.blk k o h).set i v
/-- A block more. -/
theorem MX.more {w : World} {f q nb n : Nat} {B : Bas} {Z : Nat → Prop} {s : NS} {H : Hp} (M : MX w f q Z s nb n B H) (tg : Tg) (ty : Nat) (cs : Array Value) : MX (w.alloc (.cells cs ty)) f q Z s nb n B (upd H w.heap.size ⟨tg, ty, cs⟩) := by
  have hb : Below w.heap.size w (w.alloc (.cells cs ty)) := (Below.refl _ w).alloc (Nat.le_refl _) _
  have hsz : (w.alloc (.cells cs ty)).heap.size = w.heap.size + 1 := by simp
  have hf := M.fx.blk.lt
  have hno : H w.heap.size = none := by
    cases h : H w.heap.size with
    | none => rfl
    | some o => exact absurd (M.lt h) (Nat.lt_irrefl _)
  have hzn : Z w.heap.size := (M.fx.new _ (Nat.le_refl _)).1
  have hY : Yof Z (upd H w.heap.size ⟨tg, ty, cs⟩) = fun k => Upto w (Yof Z H) k ∨ (w.alloc (.cells cs ty)).heap.size ≤ k := by
    funext k
    apply propext
    constructor
    · rintro ⟨hz, hk⟩
      by_cases e : k = w.heap.size
      · subst e; rw [upd_self] at hk; cases hk
      · rw [upd_ne _ _ e] at hk
        rcases Nat.lt_or_ge k w.heap.size with h | h
        · exact .inl ⟨⟨hz, hk⟩, h⟩
        · exact .inr (by omega)
    · rintro (⟨hk, hl⟩ | hk)
      · exact ⟨hk.1, by rw [upd_ne _ _ (by omega)]; exact hk.2⟩
      · have := M.fx.new k (by omega)
        exact ⟨this.1, by rw [upd_ne _ _ (by omega)]; exact this.2⟩
  refine ⟨?_, fun b o h => ?_, fun b o h => ?_, M.tn⟩
  · rw [hY]
    exact M.fx.renew hb
  · by_cases e : b = w.heap.size
    · subst e
      rw [upd_self] at h
      injection h with h
      subst h
      exact Blk.new w ty cs
    · rw [upd_ne _ _ e] at h
      exact (M.blk b o h).below hb (M.lt h)
  · by_cases e : b = w.heap.size
    · subst e
      exact ⟨hzn, by omega⟩
    · rw [upd_ne _ _ e] at h
      exact M.out b o h
/-- A call that turns one block alone, and new ones. -/
theorem MX.one {w w' : World} {f q nb n : Nat} {B : Bas} {Z : Nat → Prop} {s : NS} {H : Hp} (M : MX w f q Z s nb n B H) {b : Nat} {o o' : Cel} (h : H b = some o) (hg : GrownS w w' (fun k => k = b)) (h2 : Blk w' b o'.ty o'.cs) : MX w' f q Z s nb n B (upd H b o') := by
  refine M.turn hg (fun k e => ⟨o, by rw [e]; exact h⟩) (upd_none h) (fun k e => upd_ne _ _ e) (fun k o2 e h3 => ?_)
  subst e
  rw [upd_self] at h3
  injection h3 with h3
  subst h3
  exact h2
theorem grownS_refl (w : World) (S : Nat → Prop) : GrownS w w S := ⟨rfl, rfl, rfl, Nat.le_refl _, fun _ _ _ => rfl⟩
/-- The tree turns, and a block of an open file. -/
theorem MX.base {w : World} {f q nb n : Nat} {B : Bas} {Z : Nat → Prop} {s : NS} {H : Hp} (M : MX w f q Z s nb n B H) (S : Nat → Prop) (hS : ∀ k, Yof Z H k → S k) : FX w f q (Yof Z H) s nb n ⟨B.w, w, S⟩ :=
  ⟨⟨M.fx.nd.at', M.fx.nd.ok, ⟨M.env.1, M.env.2.1, grownS_refl w S, fun k hk => hS k (M.fx.new k hk)⟩, fun k hk => ⟨(M.tn k hk.1).1, hS k hk⟩⟩, M.fx.blk, M.fx.no, M.fx.new⟩
theorem MX.back {w w' : World} {f q nb n n' : Nat} {B : Bas} {Z S : Nat → Prop} {s s' : NS} {H H' : Hp} (M : MX w f q Z s nb n B H) (hS : ∀ k, S k → Yof Z H k ∨ ∃ o, H k = some o) (hn : ∀ k, H' k = none ↔ H k = none) (hk : ∀ k, ¬ S k → H' k = H k) (F : FX w' f q (Yof Z H) s' nb n' ⟨B.w, w, S⟩) (hs : ∀ k o, S k → H' k = some o → Blk w' k o.ty o.cs) : MX w' f q Z s' nb n' B H' := by
  have hg : GrownS w w' S := F.nd.env.kept
  have hY : Yof Z H' = Yof Z H := funext fun k => propext (and_congr Iff.rfl (hn k))
  have hz : ∀ k, S k → Z k := fun k h => by
    rcases hS k h with h | ⟨o, h⟩
    · exact h.1
    · exact (M.out k o h).1
  refine ⟨?_, fun b o h => ?_, fun b o h => ?_, M.tn⟩
  · rw [hY]
    exact ⟨⟨F.nd.at', F.nd.ok, M.env.grownS hg (fun k h => M.tn k (hz k h)), fun k hk2 => M.tn k hk2.1⟩, F.blk, F.no, F.new⟩
  · by_cases hs2 : S b
    · exact hs b o hs2 h
    · rw [hk b hs2] at h
      exact (M.blk b o h).grownS hg hs2
  · cases ho : H b with
    | none => rw [(hn b).2 ho] at h; cases h
    | some o2 => exact M.out b o2 ho
theorem MX.tree {w w' : World} {f q nb n n' : Nat} {B : Bas} {Z : Nat → Prop} {s s' : NS} {H : Hp} (M : MX w f q Z s nb n B H) (F : FX w' f q (Yof Z H) s' nb n' ⟨B.w, w, Yof Z H⟩) : MX w' f q Z s' nb n' B H :=
  M.back (fun _ h => .inl h) (fun _ => Iff.rfl) (fun _ _ => rfl) F (fun k o h h2 => by rw [h.2] at h2; cases h2)
/-- An open file in a block of its own, with the tree. -/
theorem MX.file {w : World} {f q nb n : Nat} {B : Bas} {Z : Nat → Prop} {s : NS} {H : Hp} (M : MX w f q Z s nb n B H) {b : Nat} {g : Tg} {x : Fl} (h : H b = some ⟨g, 145, flV f x⟩) (ho : FlOk x) : GX w f q (Yof Z H) s nb n ⟨B.w, w, fun k => Yof Z H k ∨ k = b⟩ [(b, x)] := by
  have hj : ∀ (j c : Nat) (y : Fl), ([(b, x)] : List (Nat × Fl))[j]? = some (c, y) → j = 0 ∧ c = b ∧ y = x := fun j c y hj => by
    cases j with
    | zero =>
      simp at hj
      exact ⟨rfl, hj.1.symm, hj.2.symm⟩
    | succ j => simp at hj
  refine ⟨M.base _ (fun k h => .inl h), fun j c y hh => ?_, fun j c y hh => ?_, fun i j c y z h1 h2 => ?_, fun j c y hh => ?_⟩
  · obtain ⟨_, rfl, rfl⟩ := hj j c y hh
    exact M.blk c _ h
  · obtain ⟨_, rfl, rfl⟩ := hj j c y hh
    exact ⟨fun e => (by rw [e.2] at h; cases h), ⟨(M.tn c (M.out c _ h).1).1, .inr rfl⟩, (M.out c _ h).2⟩
  · rw [(hj i c y h1).1, (hj j c z h2).1]
  · obtain ⟨_, rfl, rfl⟩ := hj j c y hh
    exact ho
theorem MX.fileBack {w w' : World} {f q nb n n' : Nat} {B : Bas} {Z : Nat → Prop} {s s' : NS} {H : Hp} (M : MX w f q Z s nb n B H) {b : Nat} {g : Tg} {x x' : Fl} (h : H b = some ⟨g, 145, flV f x⟩) (G : GX w' f q (Yof Z H) s' nb n' ⟨B.w, w, fun k => Yof Z H k ∨ k = b⟩ [(b, x')]) : MX w' f q Z s' nb n' B (upd H b ⟨g, 145, flV f x'⟩) := by
  refine M.back (fun k hk => ?_) (upd_none h) (fun k hk => upd_ne _ _ (fun e => hk (.inr e))) G.fx (fun k o hk h2 => ?_)
  · rcases hk with hk | hk
    · exact .inl hk
    · exact .inr ⟨_, by rw [hk]; exact h⟩
  · rcases hk with hk | rfl
    · rw [(upd_none h k).2 hk.2] at h2; cases h2
    · rw [upd_self] at h2
      injection h2 with h2
      subst h2
      exact G.blk 0 k x' rfl
/-- A file that was opened. -/
theorem MX.opened {w w' : World} {f q nb n n' : Nat} {B : Bas} {Z Y' : Nat → Prop} {s s' : NS} {H : Hp} (M : MX w f q Z s nb n B H) {b : Nat} {x : Fl} (g : Tg) (G : GX w' f q Y' s' nb n' ⟨B.w, w, Yof Z H⟩ [(b, x)]) (hY : ∀ k, Y' k → Yof Z H k) (hb : Yof Z H b) : MX w' f q Z s' nb n' B (upd H b ⟨g, 145, flV f x⟩) ∧ FlOk x ∧ H b = none := by
  have hg : GrownS w w' (Yof Z H) := G.fx.nd.env.kept
  have ho := G.out 0 b x rfl
  have hy : ∀ k, Yof Z (upd H b ⟨g, 145, flV f x⟩) k ↔ Yof Z H k ∧ k ≠ b := fun k => by
    constructor
    · rintro ⟨h1, h2⟩
      by_cases e : k = b
      · subst e; rw [upd_self] at h2; cases h2
      · rw [upd_ne _ _ e] at h2
        exact ⟨⟨h1, h2⟩, e⟩
    · rintro ⟨⟨h1, h2⟩, e⟩
      exact ⟨h1, by rw [upd_ne _ _ e]; exact h2⟩
  have F := G.fx.wide (Y' := Yof Z (upd H b ⟨g, 145, flV f x⟩)) (fun k hk => (hy k).2 ⟨hY k hk, fun e => ho.1 (e ▸ hk)⟩) (fun e => M.fx.no ((hy f).1 e).1) (fun k hk => ⟨(M.tn k hk.1).1, ((hy k).1 hk).1⟩)
  refine ⟨⟨⟨⟨F.nd.at', F.nd.ok, M.env.grownS hg (fun k hk => M.tn k hk.1), fun k hk => M.tn k hk.1⟩, F.blk, F.no, F.new⟩, fun c o h => ?_, fun c o h => ?_, M.tn⟩, G.ok 0 b x rfl, hb.2⟩
  · by_cases e : c = b
    · subst e
      rw [upd_self] at h
      injection h with h
      subst h
      exact G.blk 0 c x rfl
    · rw [upd_ne _ _ e] at h
      exact (M.blk c o h).grownS hg (fun h2 => by rw [h2.2] at h; cases h)
  · by_cases e : c = b
    · subst e
      exact ⟨hb.1, ho.2.2⟩
    · rw [upd_ne _ _ e] at h
      exact M.out c o h

end Go.Proofs.YtemologkibcdoaaGreatDoor

/- How all that is open lies in blocks, and what becomes of that when things are taken, dropped, made. -/
namespace Go.Proofs.YtemologkibcdoaaGreatDoor
open Go.RowKit Go.Maps

/-- Which block is what. -/
structure Fay where
  tb : Nat → Nat
  ob : Nat → Nat
  pb : Nat → Nat
  kb : Nat → Nat
def ptrV (b : Nat) : Value := .pointer (some ⟨b, 0, none⟩)
/-- What a thing's field says. -/
def itf (L : Fay) (i : Nat) : Wh → Value
  | .file _ => .iface 103 (.agg #[ptrV (L.ob i)])
  | .rd p => .iface 117 (.agg #[ptrV (L.pb p)])
  | .wr p => .iface 119 (.agg #[ptrV (L.pb p)])
  | .tape _ => .iface 90 (ptrV (L.ob i))
  | .sink k => .iface 106 (ptrV (L.kb k))
def thC (L : Fay) (i : Nat) (t : Th) : Array Value := #[itf L i t.wh, .int .i64 (t.many : Int)]
def numV (L : Fay) (o : Option Nat) : Value := .pointer (o.map (fun i => ⟨L.tb i, 0, none⟩))
theorem numV_none (L : Fay) : numV L none = .pointer none := rfl
theorem numV_some (L : Fay) (i : Nat) : numV L (some i) = .pointer (some ⟨L.tb i, 0, none⟩) := rfl
def setC (L : Fay) (x : Nat) (l : List (Option Nat)) : Array Value := (ptrV x :: l.map (numV L)).toArray
/-- A row of cells. -/
def Row (H : Hp) (g : Tg) (e : Nat) (v : Value) (xs : List Value) : Prop :=
  (v = .slice none 0 0 ∧ xs = []) ∨ ∃ b cap cur, v = .slice (some ⟨b, 0, none⟩) xs.length cap ∧ H b = some ⟨g, e, cur⟩ ∧ xs.length ≤ cap ∧ cap ≤ maxLen ∧ cur.size = cap ∧ cur.toList.take xs.length = xs
def filC (f : Nat) (m : Nat) (v : Value) : Array Value := #[ptrV f, .int .i64 (m : Int), v]
/-- A block for what a thing is of its own. -/
def objP (H : Hp) (f : Nat) (L : Fay) (i : Nat) : Wh → Prop
  | .file x => H (L.ob i) = some ⟨.obj i, 145, flV f x⟩
  | .tape t => H (L.ob i) = some ⟨.obj i, 94, #[.string (BA t)]⟩
  | _ => True
structure Lies (H : Hp) (f x : Nat) (L : Fay) (sb : List Nat) (A : AS) (c : Nat) : Prop where
  fil : ∃ v, H x = some ⟨.files, 81, filC f c v⟩ ∧ Row H .row 106 v ((List.range A.sk.length).map (fun k => ptrV (L.kb k)))
  th : ∀ (i : Nat) (t : Th), A.th[i]? = some t → H (L.tb i) = some ⟨.thing i, 98, thC L i t⟩
  ob : ∀ (i : Nat) (t : Th), A.th[i]? = some t → objP H f L i t.wh
  pp : ∀ (p : Nat) (y : Pi.Pp), A.pp[p]? = some y → ∃ cs, H (L.pb p) = some ⟨.pipe p, 158, cs⟩ ∧ ∀ w, Blk w (L.pb p) 158 cs → Pi.PAt w (L.pb p) y
  sk : ∀ (k : Nat) (t : List UInt8), A.sk[k]? = some t → ∃ a v, H (L.kb k) = some ⟨.sink k, 113, #[a, v]⟩ ∧ (a = .pointer none ∨ a = ptrV (L.kb k)) ∧ Row H (.buf k) 5 v (Lib.byteCells t)
  st : ∀ (k b : Nat) (l : List (Option Nat)), sb[k]? = some b → A.st[k]? = some l → H b = some ⟨.set k, 76, setC L x l⟩ ∧ l.length = 16
  len : sb.length = A.st.length

theorem Row.tag {H H' : Hp} {g : Tg} {e : Nat} {v : Value} {xs : List Value} (h : Row H g e v xs) (hk : ∀ b o, H b = some o → o.tg = g → H' b = some o) : Row H' g e v xs := by
  rcases h with h | ⟨b, cap, cur, h1, h2, h3⟩
  · exact .inl h
  · exact .inr ⟨b, cap, cur, h1, hk b _ h2 rfl, h3⟩
theorem Row.owns {w : World} {f q nb n : Nat} {B : Bas} {Z : Nat → Prop} {s : NS} {H : Hp} (M : MX w f q Z s nb n B H) {g : Tg} {e : Nat} {v : Value} {xs : List Value} (h : Row H g e v xs) : w.ownsRow 0 e 1 v xs.length xs := by
  refine ⟨(Nat.mul_one _).symm, ?_⟩
  rcases h with ⟨h, rfl⟩ | ⟨b, cap, cur, h1, h2, h3, h4, h5, h6⟩
  · exact .inl ⟨h, rfl⟩
  · exact .inr ⟨b, cap, cur, h1, Nat.zero_le _, M.blk b _ h2, h3, h4, by rw [h5, Nat.mul_one], by rw [Nat.mul_one]; exact h6⟩
/-- A cell that is set where nothing but a thing, a set, an object is looked at: what lies elsewhere stays. -/
theorem upd_tag {H : Hp} {b : Nat} {o o' : Cel} (h : H b = some o) {g : Tg} (hg : o.tg ≠ g) : ∀ c p, H c = some p → p.tg = g → upd H b o' c = some p := fun c p hc hp => by
  by_cases e : c = b
  · subst e
    rw [h] at hc
    injection hc with hc
    subst hc
    exact absurd hp hg
  · rw [upd_ne _ _ e]; exact hc
theorem upd_at {H : Hp} {b c : Nat} {o o' p : Cel} (h : H b = some o) (hc : H c = some p) (hg : o.tg ≠ p.tg) : upd H b o' c = some p := upd_tag h hg c p hc rfl

/-- Where a tag is told there is one block of it. -/
theorem Lies.tree {H : Hp} {f x c : Nat} {L : Fay} {sb : List Nat} {A : AS} (h : Lies H f x L sb A c) (s : NS) : Lies H f x L sb { A with s := s } c := ⟨h.fil, h.th, h.ob, h.pp, h.sk, h.st, h.len⟩
theorem objP_upd {H : Hp} {f : Nat} {L : Fay} {i b : Nat} {o o' : Cel} (h : H b = some o) (hg : o.tg ≠ .obj i) {y : Wh} (hy : objP H f L i y) : objP (upd H b o') f L i y := by
  cases y with
  | file x => exact upd_tag h hg _ _ hy rfl
  | tape t => exact upd_tag h hg _ _ hy rfl
  | rd p => trivial
  | wr p => trivial
  | sink k => trivial
theorem Lies.cnt {H : Hp} {f x c : Nat} {L : Fay} {sb : List Nat} {A : AS} (h : Lies H f x L sb A c) {v : Value} (hx : H x = some ⟨.files, 81, filC f c v⟩) (c' : Nat) : Lies (upd H x ⟨.files, 81, filC f c' v⟩) f x L sb A c' := by
  obtain ⟨v', h1, h2⟩ := h.fil
  rw [hx] at h1
  have hv : v = v' := by
    injection h1 with h1
    injection h1 with _ _ h1
    have := congrArg (fun a : Array Value => a[2]?) h1
    simpa [filC] using this
  subst hv
  refine ⟨⟨v, upd_self _ _ _, h2.tag (upd_tag hx (by simp))⟩, fun i t ht => upd_at hx (h.th i t ht) (by simp), fun i t ht => objP_upd hx (by simp) (h.ob i t ht), fun p y hp => ?_, fun k t hk => ?_, fun k b l h3 h4 => ⟨upd_at hx (h.st k b l h3 h4).1 (by simp), (h.st k b l h3 h4).2⟩, h.len⟩
  · obtain ⟨cs, e1, e2⟩ := h.pp p y hp
    exact ⟨cs, upd_at hx e1 (by simp), e2⟩
  · obtain ⟨a, u, e1, e2, e3⟩ := h.sk k t hk
    exact ⟨a, u, upd_at hx e1 (by simp), e2, e3.tag (upd_tag hx (by simp))⟩
theorem get_set {α : Type} {l : List α} {i j : Nat} {a b : α} (h : (l.set i a)[j]? = some b) : (j = i ∧ b = a) ∨ (j ≠ i ∧ l[j]? = some b) := by
  by_cases e : i = j
  · subst e
    have hl : i < l.length := by
      have := (List.getElem?_eq_some_iff.1 h).1
      simpa using this
    rw [List.getElem?_set_self hl] at h
    injection h with h
    exact .inl ⟨rfl, h.symm⟩
  · rw [List.getElem?_set_ne e] at h
    exact .inr ⟨fun e2 => e e2.symm, h⟩
theorem manyA_th {A : AS} {i m : Nat} {t : Th} (h : A.th[i]? = some t) : manyA A i m = { A with th := A.th.set i ⟨t.wh, m⟩ } := by
  unfold manyA
  rw [h]
theorem Lies.many {H : Hp} {f x c : Nat} {L : Fay} {sb : List Nat} {A : AS} (h : Lies H f x L sb A c) {i : Nat} {t : Th} (ht : A.th[i]? = some t) (m : Nat) : Lies (upd H (L.tb i) ⟨.thing i, 98, thC L i ⟨t.wh, m⟩⟩) f x L sb (manyA A i m) c := by
  have hx := h.th i t ht
  rw [manyA_th ht]
  obtain ⟨v', h1, h2⟩ := h.fil
  refine ⟨⟨v', upd_at hx h1 (by simp), h2.tag (upd_tag hx (by simp))⟩, fun j t2 h3 => ?_, fun j t2 h3 => ?_, fun p y hp => ?_, fun k t hk => ?_, fun k b l h3 h4 => ⟨upd_at hx (h.st k b l h3 h4).1 (by simp), (h.st k b l h3 h4).2⟩, h.len⟩
  · rcases get_set h3 with ⟨rfl, rfl⟩ | ⟨h5, h6⟩
    · exact upd_self _ _ _
    · exact upd_at hx (h.th j t2 h6) (by simpa using fun e => h5 e.symm)
  · rcases get_set h3 with ⟨rfl, rfl⟩ | ⟨h5, h6⟩
    · exact objP_upd hx (by simp) (h.ob j t ht)
    · exact objP_upd hx (by simp) (h.ob j t2 h6)
  · obtain ⟨cs, e1, e2⟩ := h.pp p y hp
    exact ⟨cs, upd_at hx e1 (by simp), e2⟩
  · obtain ⟨a, u, e1, e2, e3⟩ := h.sk k t hk
    exact ⟨a, u, upd_at hx e1 (by simp), e2, e3.tag (upd_tag hx (by simp))⟩
theorem row_at {A : AS} {k : Nat} {l : List (Option Nat)} (h : A.st[k]? = some l) : row A k = l := by
  unfold row
  rw [h]
  rfl
theorem Lies.put {H : Hp} {f x c : Nat} {L : Fay} {sb : List Nat} {A : AS} (h : Lies H f x L sb A c) {k b : Nat} {l : List (Option Nat)} (hb : sb[k]? = some b) (hl : A.st[k]? = some l) (fd : Nat) (o : Option Nat) : Lies (upd H b ⟨.set k, 76, setC L x (l.set fd o)⟩) f x L sb (putA A k (fd : Int) o) c := by
  obtain ⟨hx, hl16⟩ := h.st k b l hb hl
  unfold putA
  rw [row_at hl, show (fd : Int).toNat = fd by omega]
  obtain ⟨v', h1, h2⟩ := h.fil
  refine ⟨⟨v', upd_at hx h1 (by simp), h2.tag (upd_tag hx (by simp))⟩, fun j t2 h3 => upd_at hx (h.th j t2 h3) (by simp), fun j t2 h3 => objP_upd hx (by simp) (h.ob j t2 h3), fun p y hp => ?_, fun k t hk => ?_, fun k2 b2 l2 h3 h4 => ?_, by simpa using h.len⟩
  · obtain ⟨cs, e1, e2⟩ := h.pp p y hp
    exact ⟨cs, upd_at hx e1 (by simp), e2⟩
  · obtain ⟨a, u, e1, e2, e3⟩ := h.sk k t hk
    exact ⟨a, u, upd_at hx e1 (by simp), e2, e3.tag (upd_tag hx (by simp))⟩
  · rcases get_set h4 with ⟨rfl, rfl⟩ | ⟨h5, h6⟩
    · rw [hb] at h3
      injection h3 with h3
      subst h3
      exact ⟨upd_self _ _ _, by simpa using hl16⟩
    · exact ⟨upd_at hx (h.st k2 b2 l2 h3 h6).1 (by simpa using fun e => h5 e.symm), (h.st k2 b2 l2 h3 h6).2⟩
/-- What a thing is has turned: a file, a tape. -/
theorem setWh_th {A : AS} {i : Nat} {t : Th} (h : A.th[i]? = some t) (y : Wh) : setWh A i y = { A with th := A.th.set i ⟨y, t.many⟩ } := by
  unfold setWh
  rw [h]
theorem Lies.objs {H : Hp} {f x c : Nat} {L : Fay} {sb : List Nat} {A : AS} (h : Lies H f x L sb A c) {i : Nat} {t : Th} (ht : A.th[i]? = some t) {o o' : Cel} (ho : H (L.ob i) = some o) (hg : o.tg = .obj i) (y : Wh) (hi : itf L i y = itf L i t.wh) (hy : objP (upd H (L.ob i) o') f L i y) : Lies (upd H (L.ob i) o') f x L sb (setWh A i y) c := by
  rw [setWh_th ht]
  have hx := ho
  obtain ⟨v', h1, h2⟩ := h.fil
  refine ⟨⟨v', upd_at hx h1 (by rw [hg]; simp), h2.tag (upd_tag hx (by rw [hg]; simp))⟩, fun j t2 h3 => ?_, fun j t2 h3 => ?_, fun p y hp => ?_, fun k t hk => ?_, fun k b l h3 h4 => ⟨upd_at hx (h.st k b l h3 h4).1 (by rw [hg]; simp), (h.st k b l h3 h4).2⟩, h.len⟩
  · rcases get_set h3 with ⟨rfl, rfl⟩ | ⟨h5, h6⟩
    · unfold thC
      rw [hi]
      exact upd_at hx (h.th j t ht) (by rw [hg]; simp)
    · exact upd_at hx (h.th j t2 h6) (by rw [hg]; simp)
  · rcases get_set h3 with ⟨rfl, rfl⟩ | ⟨h5, h6⟩
    · exact hy
    · exact objP_upd hx (by rw [hg]; simpa using fun e => h5 e.symm) (h.ob j t2 h6)
  · obtain ⟨cs, e1, e2⟩ := h.pp p y hp
    exact ⟨cs, upd_at hx e1 (by rw [hg]; simp), e2⟩
  · obtain ⟨a, u, e1, e2, e3⟩ := h.sk k t hk
    exact ⟨a, u, upd_at hx e1 (by rw [hg]; simp), e2, e3.tag (upd_tag hx (by rw [hg]; simp))⟩
/-- A pipe has turned. -/
theorem Lies.pipe {H : Hp} {f x c : Nat} {L : Fay} {sb : List Nat} {A : AS} (h : Lies H f x L sb A c) {p : Nat} {y : Pi.Pp} (hp : A.pp[p]? = some y) {cs : Array Value} {y' : Pi.Pp} (hc : ∀ w, Blk w (L.pb p) 158 cs → Pi.PAt w (L.pb p) y') : Lies (upd H (L.pb p) ⟨.pipe p, 158, cs⟩) f x L sb { A with pp := A.pp.set p y' } c := by
  obtain ⟨cs0, hx, _⟩ := h.pp p y hp
  obtain ⟨v', h1, h2⟩ := h.fil
  refine ⟨⟨v', upd_at hx h1 (by simp), h2.tag (upd_tag hx (by simp))⟩, fun j t2 h3 => upd_at hx (h.th j t2 h3) (by simp), fun j t2 h3 => objP_upd hx (by simp) (h.ob j t2 h3), fun p2 y2 hp2 => ?_, fun k t hk => ?_, fun k b l h3 h4 => ⟨upd_at hx (h.st k b l h3 h4).1 (by simp), (h.st k b l h3 h4).2⟩, h.len⟩
  · rcases get_set hp2 with ⟨rfl, rfl⟩ | ⟨h5, h6⟩
    · exact ⟨cs, upd_self _ _ _, hc⟩
    · obtain ⟨cs2, e1, e2⟩ := h.pp p2 y2 h6
      exact ⟨cs2, upd_at hx e1 (by simpa using fun e => h5 e.symm), e2⟩
  · obtain ⟨a, u, e1, e2, e3⟩ := h.sk k t hk
    exact ⟨a, u, upd_at hx e1 (by simp), e2, e3.tag (upd_tag hx (by simp))⟩

/-- A tree, and all that is open beside it. -/
structure FH (w : World) (f q : Nat) (Z : Nat → Prop) (A : AS) (nb n : Nat) (B : Bas) (x : Nat) (sb : List Nat) (H : Hp) (L : Fay) : Prop where
  mx : MX w f q Z A.s nb n B H
  li : Lies H f x L sb A (openA A)
theorem cp_set {α : Type} (p : α → Bool) : ∀ (l : List α) (i : Nat) (a b : α), l[i]? = some a → (l.set i b).countP p + (if p a then 1 else 0) = l.countP p + (if p b then 1 else 0)
  | [], i, a, b, h => by simp at h
  | c :: l, 0, a, b, h => by
    simp at h
    subst h
    simp only [List.set_cons_zero, List.countP_cons]
    omega
  | c :: l, i + 1, a, b, h => by
    have := cp_set p l i a b (by simpa using h)
    simp only [List.set_cons_succ, List.countP_cons]
    omega
theorem open_many {A : AS} {i : Nat} {t : Th} (h : A.th[i]? = some t) (m : Nat) : openA (manyA A i m) + (if 0 < t.many then 1 else 0) = openA A + (if 0 < m then 1 else 0) := by
  rw [manyA_th h]
  have := cp_set (fun t : Th => decide (0 < t.many)) A.th i t ⟨t.wh, m⟩ h
  simpa [openA] using this
theorem open_put (A : AS) (k : Nat) (fd : Int) (o : Option Nat) : openA (putA A k fd o) = openA A := rfl
theorem open_wh {A : AS} {i : Nat} {t : Th} (h : A.th[i]? = some t) (y : Wh) : openA (setWh A i y) = openA A := by
  rw [setWh_th h]
  have := cp_set (fun t : Th => decide (0 < t.many)) A.th i t ⟨y, t.many⟩ h
  simp at this
  simpa [openA] using this

end Go.Proofs.YtemologkibcdoaaGreatDoor

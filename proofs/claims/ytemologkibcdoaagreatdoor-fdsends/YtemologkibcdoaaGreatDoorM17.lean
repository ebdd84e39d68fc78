/-
  Directories (stage 13) in memory.
  Directories (stage 13): what nodes tell: isDir, isLink, lookup, bytes, hasNames.
-/
import Derived.Test.YtemologkibcdoaaGreatDoorM15
import Derived.Test.YtemologkibcdoaaGreatDoorM16
import Derived.Lib.SmallJoins
import Derived.Test.YtemologkibcdoaaGreatDoorM08
import Derived.BigQuiet
import Derived.Deep.QuietTactic
import Derived.Deep.RegionHeld3

/- Directories (stage 13) in memory. -/
namespace Go.Proofs.YtemologkibcdoaaGreatDoor
open Go.RowKit Go.Maps

abbrev MapV (w : World) (k : TypeId) (m : Nat) (D : DataW Value) : Prop := w.ownsMap Tryz.prog k itself m (Maps.size D) D
theorem mapV_tight {w : World} {k : TypeId} {b n : Nat} {D : DataW Value} (h : w.ownsMap Tryz.prog k itself b n D) : MapV w k b D := by
  obtain ⟨es, clock, h1, h2, h3, rfl⟩ := h
  exact ⟨es, clock, h1, h2, by simp [Maps.size, length_sorted], rfl⟩
theorem mapV_grownS {w w' : World} {S : Nat → Prop} {k : TypeId} {b : Nat} {D : DataW Value} (h : MapV w k b D) (hg : GrownS w w' S) (hb : ¬ S b) : MapV w' k b D := by
  have hlt := h.lt
  obtain ⟨es, clock, h1, r⟩ := h
  exact ⟨es, clock, (hg.block b hlt hb).trans h1, r⟩
theorem blk_mapV {w : World} {a b : Nat} {t k : TypeId} {cs : Array Value} {D : DataW Value} (h : Blk w a t cs) (h2 : MapV w k b D) : a ≠ b := by
  rintro rfl
  obtain ⟨es, clock, hb, _⟩ := h2
  have h3 := (show w.heap[a]? = _ from h).symm.trans hb
  cases h3
def dirV (p : Int) (m : Nat) : Value := .agg #[.int .i64 p, .map (some m)]
/-- The map of directories. -/
structure DReads (D : DataW Value) (kd : Int → Nat) (par : Int → Int) (M : Int → Nat) : Prop where
  at' : ∀ d, kd d = 2 → ∀ z, D.atKey (.int .i64 d) z = .held (dirV (par d) (M d))
  no : ∀ d, kd d ≠ 2 → has D (.int .i64 d) = false
/-- What stays: the start's world; and of a later one all blocks but S. -/
structure Bas where
  w : World
  c : World
  S : Nat → Prop
def Bas.tn (B : Bas) (k : Nat) : Prop := B.w.heap.size ≤ k ∧ B.S k
def Bas.of (w : World) : Bas := ⟨w, w, fun k => w.heap.size ≤ k⟩
/-- What the library's calls read of the world. -/
def EnvB (w : World) (B : Bas) : Prop := (∃ m : Int, B.w.cell? ⟨0, 0, none⟩ = some (.int .i64 m)) ∧ Below B.w.heap.size B.w w ∧ GrownS B.c w B.S ∧ ∀ k, B.c.heap.size ≤ k → B.S k
theorem EnvB.bel {w : World} {B : Bas} (h : EnvB w B) : Below B.w.heap.size B.w w := h.2.1
theorem EnvB.kept {w : World} {B : Bas} (h : EnvB w B) : GrownS B.c w B.S := h.2.2.1
theorem EnvB.below {w w' : World} {B : Bas} (h : EnvB w B) (hb : Below w.heap.size w w') : EnvB w' B := ⟨h.1, h.2.1.trans (hb.mono h.2.1.size), h.2.2.1.trans (grownS_of_below hb), h.2.2.2⟩
theorem EnvB.grownS {w w' : World} {B : Bas} {S : Nat → Prop} (h : EnvB w B) (hg : GrownS w w' S) (hs : ∀ k, S k → B.tn k) : EnvB w' B := ⟨h.1, h.2.1.trans (hg.below h.2.1.size (fun k hk => (hs k hk).1)), h.2.2.1.trans (hg.mono (fun k _ hk => (hs k hk).2)), h.2.2.2⟩
theorem EnvB.le {w : World} {B : Bas} (h : EnvB w B) : ∀ k, w.heap.size ≤ k → B.tn k := fun k hk => ⟨Nat.le_trans h.2.1.size hk, h.2.2.2 k (Nat.le_trans h.2.2.1.size hk)⟩
theorem EnvB.maxLen {w : World} {B : Bas} (h : EnvB w B) : ∃ m : Int, w.cell? ⟨0, 0, none⟩ = some (.int .i64 m) := by
  obtain ⟨⟨m, h2⟩, h4, _⟩ := h
  refine ⟨m, (h4.cell (p := ⟨0, 0, none⟩) ?_).trans h2⟩
  have : B.w.heap[(0 : Nat)]? ≠ none := fun e => by simp [World.cell?, e] at h2
  rcases Nat.lt_or_ge 0 B.w.heap.size with h5 | h5
  · exact h5
  · exact absurd (Array.getElem?_eq_none h5) this
theorem EnvB.self {w : World} {B : Bas} (h : EnvB w B) : EnvB w (Bas.of w) := ⟨h.maxLen, Below.refl _ _, grownS_of_below (Below.refl _ _), fun _ h => h⟩
/-- A later world beside: of it all blocks but S stay. -/
theorem EnvB.rebase {w : World} {B : Bas} (h : EnvB w B) {S : Nat → Prop} (hs : ∀ k, w.heap.size ≤ k → S k) : EnvB w ⟨B.w, w, S⟩ := ⟨h.1, h.2.1, grownS_of_below (Below.refl _ _), hs⟩
/-- Nodes, names and parents at q: the table at t (its blocks are of T), the directories' map at dm, the names' maps at M. -/
structure NdL (w : World) (q t dm : Nat) (M : Int → Nat) (X : Nat → Prop) (s : NS) (nb : Nat) : Prop where
  nds : Blk w q 72 #[.pointer (some ⟨t, 0, none⟩), .map (some dm)]
  tab : TAt w t X s.T nb
  lt : ∀ k, X k → k < w.heap.size
  noq : ¬ X q
  nod : ¬ X dm
  dirs : ∃ D, MapV w 3 dm D ∧ DReads D (kdI s.T) s.par M
  each : ∀ d, kdI s.T d = 2 → MapV w 9 (M d) (datN s.L d) ∧ ¬ X (M d) ∧ M d ≠ dm
  inj : ∀ d e, kdI s.T d = 2 → kdI s.T e = 2 → d ≠ e → M d ≠ M e
/-- Its blocks are Y's. -/
structure NdIn (q dm : Nat) (M : Int → Nat) (X : Nat → Prop) (s : NS) (Y : Nat → Prop) : Prop where
  q : Y q
  dm : Y dm
  m : ∀ d, kdI s.T d = 2 → Y (M d)
  x : ∀ k, X k → Y k
def NdAt (w : World) (q : Nat) (Y : Nat → Prop) (s : NS) (nb : Nat) : Prop := ∃ t dm M X, NdL w q t dm M X s nb ∧ NdIn q dm M X s Y
theorem NdL.lts {w : World} {q t dm : Nat} {M : Int → Nat} {X : Nat → Prop} {s : NS} {nb : Nat} (H : NdL w q t dm M X s nb) : NdIn q dm M X s (fun k => k < w.heap.size) := by
  obtain ⟨D, h, _⟩ := H.dirs
  exact ⟨H.nds.lt, h.lt, fun d hd => (H.each d hd).1.lt, H.lt⟩
theorem NdIn.mono {q dm : Nat} {M : Int → Nat} {X Y Z : Nat → Prop} {s : NS} (h : NdIn q dm M X s Y) (hyz : ∀ k, Y k → Z k) : NdIn q dm M X s Z := ⟨hyz _ h.q, hyz _ h.dm, fun d hd => hyz _ (h.m d hd), fun k hk => hyz _ (h.x k hk)⟩
theorem NdIn.and {q dm : Nat} {M : Int → Nat} {X Y Z : Nat → Prop} {s : NS} (h : NdIn q dm M X s Y) (h2 : NdIn q dm M X s Z) : NdIn q dm M X s (fun k => Y k ∧ Z k) := ⟨⟨h.q, h2.q⟩, ⟨h.dm, h2.dm⟩, fun d hd => ⟨h.m d hd, h2.m d hd⟩, fun k hk => ⟨h.x k hk, h2.x k hk⟩⟩
theorem NdL.grownS {w w' : World} {q t dm : Nat} {M : Int → Nat} {X S : Nat → Prop} {s : NS} {nb : Nat} (H : NdL w q t dm M X s nb) (hg : GrownS w w' S) (hn : NdIn q dm M X s (fun k => ¬ S k)) : NdL w' q t dm M X s nb := by
  obtain ⟨D, h1, h2⟩ := H.dirs
  exact ⟨H.nds.grownS hg hn.q, H.tab.grownS hg (fun k _ hk => hn.x k hk), fun k hk => Nat.lt_of_lt_of_le (H.lt k hk) hg.size, H.noq, H.nod, ⟨D, mapV_grownS h1 hg hn.dm, h2⟩, fun d hd => ⟨mapV_grownS (H.each d hd).1 hg (hn.m d hd), (H.each d hd).2⟩, H.inj⟩
theorem NdAt.grownS {w w' : World} {q nb : Nat} {Y S : Nat → Prop} {s : NS} (H : NdAt w q Y s nb) (hg : GrownS w w' S) (hd : ∀ k, k < w.heap.size → Y k → ¬ S k) : NdAt w' q Y s nb := by
  obtain ⟨t, dm, M, X, h1, h2⟩ := H
  exact ⟨t, dm, M, X, h1.grownS hg ((h1.lts.and h2).mono (fun k hk => hd k hk.1 hk.2)), h2⟩
theorem NdAt.below {w w' : World} {q nb : Nat} {Y : Nat → Prop} {s : NS} (H : NdAt w q Y s nb) (hb : Below w.heap.size w w') : NdAt w' q Y s nb := H.grownS (S := fun _ => False) (grownS_of_below hb) (fun _ _ _ e => e)
theorem NdAt.mono {w : World} {q nb : Nat} {Y Z : Nat → Prop} {s : NS} (H : NdAt w q Y s nb) (hyz : ∀ k, k < w.heap.size → Y k → Z k) : NdAt w q Z s nb := by
  obtain ⟨t, dm, M, X, h1, h2⟩ := H
  exact ⟨t, dm, M, X, h1, (h1.lts.and h2).mono (fun k hk => hyz k hk.1 hk.2)⟩
theorem NdAt.lt {w : World} {q nb : Nat} {Y : Nat → Prop} {s : NS} (H : NdAt w q Y s nb) : q < w.heap.size := by
  obtain ⟨t, dm, M, X, h1, h2⟩ := H
  exact h1.nds.lt
/-- The table's turn: it may use its own blocks and new ones. -/
def Fresh (w : World) (X : Nat → Prop) : Nat → Prop := fun k => X k ∨ w.heap.size ≤ k
def Upto (w : World) (X : Nat → Prop) : Nat → Prop := fun k => X k ∧ k < w.heap.size
/-- The table turned; kinds of directories and all else stayed. -/
theorem NdL.table {w w' : World} {q t dm : Nat} {M : Int → Nat} {X : Nat → Prop} {s : NS} {nb : Nat} {T' : TB} (H : NdL w q t dm M X s nb) (h1 : TAt w' t (Fresh w X) T' nb) (h2 : GrownS w w' (Fresh w X)) (hk : ∀ d, kdI T' d = 2 ↔ kdI s.T d = 2) : NdL w' q t dm M (Upto w' (Fresh w X)) { s with T := T' } nb := by
  have lt := H.lts
  have nf : ∀ k, k < w.heap.size → ¬ X k → ¬ Fresh w X k := fun k hk hx h => h.elim hx (fun h => by omega)
  have nu : ∀ k, k < w.heap.size → ¬ X k → ¬ Upto w' (Fresh w X) k := fun k hk hx h => nf k hk hx h.1
  obtain ⟨D, d1, d2⟩ := H.dirs
  exact ⟨H.nds.grownS h2 (nf q lt.q H.noq), h1.mono (fun k hk hx => ⟨hx, hk⟩), fun k hk => hk.2, nu q lt.q H.noq, nu dm lt.dm H.nod, ⟨D, mapV_grownS d1 h2 (nf dm lt.dm H.nod), fun d hd => d2.at' d ((hk d).1 hd), fun d hd => d2.no d (fun e => hd ((hk d).2 e))⟩, fun d hd => by
    have hd1 := (hk d).1 hd
    have e := H.each d hd1
    exact ⟨mapV_grownS e.1 h2 (nf _ e.1.lt e.2.1), nu _ e.1.lt e.2.1, e.2.2⟩, fun d e hd he => H.inj d e ((hk d).1 hd) ((hk e).1 he)⟩
theorem NdIn.table {w w' : World} {q dm : Nat} {M : Int → Nat} {X Y : Nat → Prop} {s : NS} {T' : TB} (h : NdIn q dm M X s Y) (hY : ∀ k, w.heap.size ≤ k → Y k) (hk : ∀ d, kdI T' d = 2 ↔ kdI s.T d = 2) : NdIn q dm M (Upto w' (Fresh w X)) { s with T := T' } Y :=
  ⟨h.q, h.dm, fun d hd => h.m d ((hk d).1 hd), fun k hk => hk.1.elim (h.x k) (hY k)⟩

/-- What the calls keep to. -/
structure NmOk (n : List UInt8) : Prop where
  ne : n ≠ []
  dot : n ≠ [46]
  dots : n ≠ [46, 46]
  len : n.length ≤ 32
  no : ∀ c ∈ n, c ≠ 47
structure NOk (s : NS) (n : Nat) : Prop where
  inv : NInv s
  gd : TGood s.T n
  max : s.T.length ≤ 1024
  nm : ∀ x ∈ s.L, NmOk x.name
  len : s.L.length ≤ n
  par : ∀ k, 0 ≤ s.par k ∧ s.par k ≤ 1024
  up : UpOk s
theorem NOk.node {s : NS} {n : Nat} (H : NOk s n) {x : Nm} (hx : x ∈ s.L) : 1 ≤ x.node ∧ x.node ≤ 1024 := by
  refine ⟨H.inv.there hx, ?_⟩
  have h1 := NV.node1 H.inv.names hx
  unfold nmI at h1
  cases h : ndAt s.T x.node with
  | none => rw [h] at h1; exact absurd h1 (by simp [namesOf])
  | some y =>
    obtain ⟨k, e, _, hl⟩ := ndAt_some h
    have := H.max
    omega
theorem NOk.find {s : NS} {n : Nat} (H : NOk s n) (d : Int) (m : List UInt8) : 0 ≤ findN s d m ∧ findN s d m ≤ 1024 := by
  by_cases h : findN s d m = 0
  · omega
  · obtain ⟨x, hx, _, _, e⟩ := find_some h
    have := H.node hx
    omega
theorem und_dirs : Tryz.prog.underlying 70 = some (.map 3 136) := by kernel_rfl
theorem und_names : Tryz.prog.underlying 134 = some (.map 9 3) := by kernel_rfl
def zeroDir : Value := .agg #[.int .i64 0, .map none]
theorem zero_dir (w : World) : (zeroValue 136).run Tryz.prog w = .ok zeroDir w := by
  have := Tryz.zeroValue136
  exact this w
theorem zero_int (w : World) : (zeroValue 3).run Tryz.prog w = .ok (.int .i64 0) w := by
  have := Tryz.zeroValue3
  exact this w
def mapOf (s : NS) (M : Int → Nat) (d : Int) : Option Nat := if kdI s.T d = 2 then some (M d) else none
def parOf (s : NS) (d : Int) : Int := if kdI s.T d = 2 then s.par d else 0
/-- n.dirs[d]. -/
theorem NdL.look {w : World} {q t dm : Nat} {M : Int → Nat} {X : Nat → Prop} {s : NS} {nb : Nat} (H : NdL w q t dm M X s nb) {d : Int} (hb : -9223372036854775808 ≤ d ∧ d ≤ 9223372036854775807) : (Instr.lookup 70 (.map (some dm)) (.int .i64 d) false).run Tryz.prog w = .ok (.agg #[.int .i64 (parOf s d), .map (mapOf s M d)]) w := by
  obtain ⟨D, h1, h2⟩ := H.dirs
  obtain ⟨v, ps, h3, h4⟩ := h1.lookup lawI und_dirs (zero_dir w) (zd := .held zeroDir) (zp := []) rfl (keyI (wf64 hb))
  have hv : D.atKey (.int .i64 d) (.held zeroDir) = .held v := (Prod.mk.inj (Option.some.inj h4)).1.symm
  rw [h3]
  unfold parOf mapOf
  by_cases hd : kdI s.T d = 2
  · rw [h2.at' d hd] at hv
    rw [if_pos hd, if_pos hd, ← DataW.held.inj hv]
    rfl
  · rw [atKey_of_not_has (h2.no d hd)] at hv
    rw [if_neg hd, if_neg hd, ← DataW.held.inj hv]
    rfl
theorem NInv.out {s : NS} (H : NInv s) {d : Int} (hd : kdI s.T d ≠ 2) (n : List UInt8) : findN s d n = 0 := find_no (fun y hy e => hd (by rw [← e.1]; exact (H.dirs y hy).1))
/-- names[n]. -/
theorem NdL.lookN {w : World} {q t dm : Nat} {M : Int → Nat} {X : Nat → Prop} {s : NS} {nb n : Nat} (H : NdL w q t dm M X s nb) (K : NOk s n) (d : Int) {m : List UInt8} (hm : m.length ≤ maxLen) : (Instr.lookup 134 (.map (mapOf s M d)) (.string (BA m)) true).run Tryz.prog w = .ok (.tuple #[.int .i64 (findN s d m), .bool (decide (findN s d m ≠ 0))]) w := by
  unfold mapOf
  by_cases hd : kdI s.T d = 2
  · rw [if_pos hd]
    obtain ⟨v, ps, h3, h4⟩ := (H.each d hd).1.look_ok strKeyed und_names (zero_int w) (zd := .held (.int .i64 0)) (zp := []) rfl (hk_str m hm)
    have hv : (datN s.L d).atKey (.string m) (.held (.int .i64 0)) = .held v := (Prod.mk.inj (Option.some.inj h4)).1.symm
    rw [h3]
    by_cases h0 : findN s d m = 0
    · have hno : has (datN s.L d) (.string m) = false := dat_has_no (fun y hy e1 e2 => by
        injection e2 with e2
        exact K.inv.find0 h0 y hy ⟨e1, e2.symm⟩)
      rw [atKey_of_not_has hno] at hv
      rw [hno, h0, ← DataW.held.inj hv]
      rfl
    · obtain ⟨x, hx, e1, e2, e3⟩ := find_some h0
      subst e2
      rw [dat_at K.inv.srt hx e1] at hv
      rw [dat_has_mem hx e1, ← DataW.held.inj hv, e3]
      simp [h0]
  · rw [if_neg hd, Maps.look_nil true strKeyed und_names (zero_int w) (hk_str m hm), K.inv.out hd]
    rfl
theorem NdL.kind {w : World} {q t dm : Nat} {M : Int → Nat} {X : Nat → Prop} {s : NS} {nb : Nat} (H : NdL w q t dm M X s nb) (i : Int) (hb : -9223372036854775808 ≤ i ∧ i ≤ 9223372036854775807) : Calls Tryz.prog 54 #[.pointer (some ⟨t, 0, none⟩), .int .i64 i] w fun e w' => e = .returned (.int .i64 (kdI s.T i : Int)) ∧ w' = w := by
  obtain ⟨L, HL, _⟩ := H.tab
  exact tkind_any HL i hb

/-- Nodes with all that a call of theirs asks for. -/
structure NdX (w : World) (q : Nat) (Y : Nat → Prop) (s : NS) (nb n : Nat) (B : Bas) : Prop where
  at' : NdAt w q Y s nb
  ok : NOk s n
  env : EnvB w B
  yb : ∀ k, Y k → B.tn k
theorem NdX.below {w w' : World} {q nb n : Nat} {B : Bas} {Y : Nat → Prop} {s : NS} (H : NdX w q Y s nb n B) (hb : Below w.heap.size w w') : NdX w' q Y s nb n B := ⟨H.at'.below hb, H.ok, H.env.below hb, H.yb⟩
theorem NdX.grownS {w w' : World} {q nb n : Nat} {B : Bas} {Y S : Nat → Prop} {s : NS} (H : NdX w q Y s nb n B) (hg : GrownS w w' S) (hd : ∀ k, k < w.heap.size → Y k → ¬ S k) (hs : ∀ k, S k → B.tn k) : NdX w' q Y s nb n B := ⟨H.at'.grownS hg hd, H.ok, H.env.grownS hg hs, H.yb⟩
theorem NdX.turn {w w' : World} {q nb n n' : Nat} {B : Bas} {Y : Nat → Prop} {s s' : NS} (H : NdX w q Y s nb n B) (h1 : NdAt w' q Y s' nb) (h2 : GrownS w w' Y) (h3 : NOk s' n') : NdX w' q Y s' nb n' B := ⟨h1, h3, H.env.grownS h2 H.yb, H.yb⟩

end Go.Proofs.YtemologkibcdoaaGreatDoor

/- Directories (stage 13): what nodes tell: isDir, isLink, lookup, bytes, hasNames. -/
namespace Go.Proofs.YtemologkibcdoaaGreatDoor
open Go.RowKit Go.Maps

set_option maxRecDepth 20000 in
set_option maxHeartbeats 1000000 in
theorem isDir_any {w : World} {q nb n : Nat} {B : Bas} {Y : Nat → Prop} {s : NS} (H : NdX w q Y s nb n B) (i : Int) (hb : -9223372036854775808 ≤ i ∧ i ≤ 9223372036854775807) : Calls Tryz.prog 39 #[.pointer (some ⟨q, 0, none⟩), .int .i64 i] w fun e w' => e = .returned (.bool (isD s i)) ∧ w' = w := by
  obtain ⟨t, dm, M, X, HL, _⟩ := H.at'
  have HK := hide (HL.kind i hb)
  have c0 : w.cell? ⟨q, 0, none⟩ = some (.pointer (some ⟨t, 0, none⟩)) := HL.nds.cell 0 rfl
  have hd : (((kdI s.T i : Nat) : Int) == 2) = isD s i := by
    show _ = decide (kdI s.T i = 2)
    by_cases h : kdI s.T i = 2
    · rw [h]; rfl
    · rw [decide_eq_false h, beq_eq_false_iff_ne]; omega
  obtain ⟨k, hk⟩ : ∃ k, k = kdI s.T i := ⟨_, rfl⟩
  rw [← hk] at HK hd
  clear hk HL H
  go_enter Tryz.func39, Tryz.ntmps39
  go_wp2_with fail
  refine (unhide HK).mono ?_
  rintro e w1 ⟨rfl, rfl⟩
  go_wp2_with fail
  go_ret
  exact ⟨ret_bool (by rw [← hd]), rfl⟩
set_option maxRecDepth 20000 in
set_option maxHeartbeats 1000000 in
theorem isLink_any {w : World} {q nb n : Nat} {B : Bas} {Y : Nat → Prop} {s : NS} (H : NdX w q Y s nb n B) (i : Int) (hb : -9223372036854775808 ≤ i ∧ i ≤ 9223372036854775807) : Calls Tryz.prog 116 #[.pointer (some ⟨q, 0, none⟩), .int .i64 i] w fun e w' => e = .returned (.bool (decide (kd s i = 3))) ∧ w' = w := by
  obtain ⟨t, dm, M, X, HL, _⟩ := H.at'
  have HK := hide (HL.kind i hb)
  have c0 : w.cell? ⟨q, 0, none⟩ = some (.pointer (some ⟨t, 0, none⟩)) := HL.nds.cell 0 rfl
  have hd : (((kdI s.T i : Nat) : Int) == 3) = decide (kd s i = 3) := by
    show _ = decide (kdI s.T i = 3)
    by_cases h : kdI s.T i = 3
    · rw [h]; rfl
    · rw [decide_eq_false h, beq_eq_false_iff_ne]; omega
  obtain ⟨k, hk⟩ : ∃ k, k = kdI s.T i := ⟨_, rfl⟩
  rw [← hk] at HK hd
  clear hk HL H
  go_enter Tryz.func116, Tryz.ntmps116
  go_wp2_with fail
  refine (unhide HK).mono ?_
  rintro e w1 ⟨rfl, rfl⟩
  go_wp2_with fail
  go_ret
  exact ⟨ret_bool (by rw [← hd]), rfl⟩
/-- Is there that name? -/
def isN (s : NS) (d : Int) (m : List UInt8) : Bool := decide (findN s d m ≠ 0)
theorem fld_dir (p : Int) (mm : Option Nat) (W : World) : (Instr.field 136 (.agg #[.int .i64 p, .map mm]) 1).run Tryz.prog W = .ok (.map mm) W := by kernel_rfl
theorem fld_par (p : Int) (mm : Option Nat) (W : World) : (Instr.field 136 (.agg #[.int .i64 p, .map mm]) 0).run Tryz.prog W = .ok (.int .i64 p) W := by kernel_rfl
theorem NdX.bel {w w' : World} {q t dm nb : Nat} {M : Int → Nat} {X : Nat → Prop} {s : NS} (H : NdL w q t dm M X s nb) (hb : Below w.heap.size w w') : NdL w' q t dm M X s nb := H.grownS (S := fun _ => False) (grownS_of_below hb) ⟨fun e => e, fun e => e, fun _ _ e => e, fun _ _ e => e⟩
set_option maxRecDepth 20000 in
set_option maxHeartbeats 1000000 in
theorem lookup_any {w : World} {q nb n : Nat} {B : Bas} {Y : Nat → Prop} {s : NS} (H : NdX w q Y s nb n B) (i : Int) (m : List UInt8) (hb : -9223372036854775808 ≤ i ∧ i ≤ 9223372036854775807) (hm : m.length ≤ 1000000) : Calls Tryz.prog 58 #[.pointer (some ⟨q, 0, none⟩), .agg #[.int .i64 i, .string (BA m)]] w fun e w' => e = .returned (.tuple #[.int .i64 (findN s i m), .bool (isN s i m)]) ∧ Below w.heap.size w w' := by
  obtain ⟨t, dm, M, X, HL, _⟩ := H.at'
  have hbw : Below w.heap.size w (w.alloc (.cells #[.int .i64 i, .string (BA m)] 85)) := (Below.refl _ w).alloc (Nat.le_refl _) _
  have hl2 := fun W (hw : Below w.heap.size w W) => (NdX.bel HL hw).lookN H.ok i (m := m) (by unfold maxLen; omega)
  have hgg : decide (findN s i m ≠ 0) = isN s i m := rfl
  obtain ⟨f, hf⟩ : ∃ f, f = findN s i m := ⟨_, rfl⟩
  obtain ⟨g, hg⟩ : ∃ g, g = isN s i m := ⟨_, rfl⟩
  rw [hgg, ← hg, ← hf] at hl2
  rw [← hg, ← hf]
  clear hgg hf hg
  have HL2 := hide hl2
  clear hl2
  go_enter Tryz.func58, Tryz.ntmps58
  go_wp2_with fail
  have hnew := Blk.new w 85 #[.int .i64 i, .string (BA m)]
  obtain ⟨W, hW⟩ : ∃ W, W = w.alloc (.cells #[.int .i64 i, .string (BA m)] 85) := ⟨_, rfl⟩
  rw [← hW] at hbw hnew ⊢
  obtain ⟨b, hb0⟩ : ∃ b, b = w.heap.size := ⟨_, rfl⟩
  rw [← hb0] at hnew ⊢
  have HW := NdX.bel HL hbw
  have c1 : W.cell? ⟨q, 1, none⟩ = some (.map (some dm)) := HW.nds.cell 1 rfl
  have e0 : W.cell? ⟨b, 0, none⟩ = some (.int .i64 i) := hnew.cell 0 rfl
  have e1 : W.cell? ⟨b, 1, none⟩ = some (.string (BA m)) := hnew.cell 1 rfl
  have hl : ∀ k, (Instr.lookup 70 (.map (some dm)) (.int .i64 i) false).run Tryz.prog (W.drewN k) = .ok (.agg #[.int .i64 (parOf s i), .map (mapOf s M i)]) (W.drewN k) := fun k => (NdX.bel HW (below_drew W k)).look hb
  have hl2 := fun k => unhide HL2 (W.drewN k) (hbw.trans ((below_drew W k).mono hbw.size))
  obtain ⟨mm, hmm⟩ : ∃ mm, mm = mapOf s M i := ⟨_, rfl⟩
  obtain ⟨pp, hpp⟩ : ∃ pp, pp = parOf s i := ⟨_, rfl⟩
  rw [← hmm, ← hpp] at hl
  rw [← hmm] at hl2
  have hfd := fld_dir pp mm
  have HB := hide hbw
  clear hmm hpp HL2 HW HL H hnew hW hbw hb0
  go_quiet (fail)
  go_wp2_with fail
  go_ret2
  exact ⟨rfl, (unhide HB).trans ((below_drew _ _).mono (unhide HB).size)⟩

theorem rd_dat (T : TB) (i : Int) : rdT T i 0 (sizeOfN (ndAt T i) : Int) = datO (ndAt T i) := by
  unfold rdT
  cases hx : ndAt T i with
  | none => rfl
  | some x =>
    show (if (0 : Int) < 0 ∨ ((x.size : Nat) : Int) < 0 then [] else ((datOf x).drop 0).take x.size) = datOf x
    rw [if_neg (by omega), List.drop_zero, List.take_of_length_le (by rw [datOf_len]; exact Nat.le_refl _)]
theorem NdL.size {w : World} {q t dm : Nat} {M : Int → Nat} {X : Nat → Prop} {s : NS} {nb : Nat} (H : NdL w q t dm M X s nb) (i : Int) (hb : -9223372036854775808 ≤ i ∧ i ≤ 9223372036854775807) : Calls Tryz.prog 140 #[.pointer (some ⟨t, 0, none⟩), .int .i64 i] w fun e w' => e = .returned (.int .i64 (sizeOfN (ndAt s.T i) : Int)) ∧ w' = w := by
  obtain ⟨L, HL, _⟩ := H.tab
  exact tsize_any HL i hb
theorem NdL.links {w : World} {q t dm : Nat} {M : Int → Nat} {X : Nat → Prop} {s : NS} {nb : Nat} (H : NdL w q t dm M X s nb) (i : Int) (hb : -9223372036854775808 ≤ i ∧ i ≤ 9223372036854775807) : Calls Tryz.prog 141 #[.pointer (some ⟨t, 0, none⟩), .int .i64 i] w fun e w' => e = .returned (.int .i64 (namesOf (ndAt s.T i) : Int)) ∧ w' = w := by
  obtain ⟨L, HL, _⟩ := H.tab
  exact tlinks_any HL i hb
set_option maxRecDepth 20000 in
set_option maxHeartbeats 1000000 in
theorem nbytes_any {w : World} {q nb n : Nat} {B : Bas} {Y : Nat → Prop} {s : NS} (H : NdX w q Y s nb n B) (i : Int) (hb : -9223372036854775808 ≤ i ∧ i ≤ 9223372036854775807) : Calls Tryz.prog 146 #[.pointer (some ⟨q, 0, none⟩), .int .i64 i] w fun e w' => e = .returned (.string (BA (datO (ndAt s.T i)))) ∧ Below w.heap.size w w' := by
  obtain ⟨t, dm, M, X, HL, _⟩ := H.at'
  have hq : q < w.heap.size := HL.nds.lt
  have cq : ∀ W, NdL W q t dm M X s nb → W.cell? ⟨q, 0, none⟩ = some (.pointer (some ⟨t, 0, none⟩)) := fun W h => h.nds.cell 0 rfl
  have HS : Hid (∀ W, NdL W q t dm M X s nb ∧ Below w.heap.size w W → Calls Tryz.prog 140 #[.pointer (some ⟨t, 0, none⟩), .int .i64 i] W fun e w' => e = .returned (.int .i64 (sizeOfN (ndAt s.T i) : Int)) ∧ w'.cell? ⟨q, 0, none⟩ = some (.pointer (some ⟨t, 0, none⟩)) ∧ Hid (NdL w' q t dm M X s nb ∧ Below w.heap.size w w')) := hide (fun W h => (h.1.size i hb).mono fun _ _ ⟨e1, e2⟩ => by subst e2; exact ⟨e1, cq _ h.1, hide h⟩)
  have HR : Hid (∀ W, NdL W q t dm M X s nb ∧ Below w.heap.size w W → Calls Tryz.prog 47 #[.pointer (some ⟨t, 0, none⟩), .int .i64 i, .int .i64 0, .int .i64 (sizeOfN (ndAt s.T i) : Int)] W fun e w' => ∃ E : Int, e = .returned (.tuple #[.string (BA (datO (ndAt s.T i))), .int .i64 E]) ∧ w'.cell? ⟨q, 0, none⟩ = some (.pointer (some ⟨t, 0, none⟩)) ∧ Hid (Below w.heap.size w w')) := hide (fun W h => (tread_any h.1.tab (fun k x hx => (H.ok.gd k x hx).1.size) i 0 (sizeOfN (ndAt s.T i) : Int) hb (by decide)).mono fun _ _ ⟨e1, e2⟩ => ⟨_, e1.trans (by rw [rd_dat]), cq _ (NdX.bel h.1 e2), hide (h.2.trans (e2.mono h.2.size))⟩)
  have H0 := hide (show NdL w q t dm M X s nb ∧ Below w.heap.size w w from ⟨HL, Below.refl _ _⟩)
  have c0 := cq w HL
  have dw : ∀ W k, NdL W q t dm M X s nb ∧ Below w.heap.size w W → NdL (W.drewN k) q t dm M X s nb ∧ Below w.heap.size w (W.drewN k) := fun W k h => ⟨NdX.bel h.1 (below_drew W k), h.2.trans ((below_drew W k).mono h.2.size)⟩
  have HD := hide dw
  obtain ⟨z, hz⟩ : ∃ z : Int, z = (sizeOfN (ndAt s.T i) : Int) := ⟨_, rfl⟩
  obtain ⟨d, hd⟩ : ∃ d, d = datO (ndAt s.T i) := ⟨_, rfl⟩
  rw [← hz] at HS HR
  rw [← hd] at HR ⊢
  clear hz hd dw cq HL H hq
  go_enter Tryz.func146, Tryz.ntmps146
  go_wp2_with fail
  go_region_held3 (fun w' => w'.cell? ⟨q, 0, none⟩ = some (.pointer (some ⟨t, 0, none⟩))) (go_keep) (first
    | (go_at_call 140; refine (unhide HS _ (by first | exact unhide H0 | exact unhide HD _ _ (unhide H0))).mono ?_; rintro e wa ⟨rfl, a1, HA⟩)
    | (go_at_call 47; refine (unhide HR _ (by first | exact unhide HA | exact unhide HD _ _ (unhide HA))).mono ?_; rintro e wb ⟨E, rfl, b1, HB⟩))
  go_wp2_with fail
  go_ret
  exact ⟨rfl, unhide HB⟩
theorem NdL.lenN {w : World} {q t dm : Nat} {M : Int → Nat} {X : Nat → Prop} {s : NS} {nb : Nat} (H : NdL w q t dm M X s nb) (K : NInv s) (d : Int) : (Builtin.len_ #[134] 3 #[.map (mapOf s M d)]).run Tryz.prog w = .ok (.int .i64 ((inN s d).length : Int)) w := by
  unfold mapOf
  by_cases hd : kdI s.T d = 2
  · rw [if_pos hd]
    have := (H.each d hd).1.len und_names 3
    rwa [dat_size] at this
  · rw [if_neg hd]
    have e : inN s d = [] := by
      unfold inN
      have : s.L.filter (fun x => decide (x.dir = d)) = [] := List.filter_eq_nil_iff.2 (fun y hy e => hd (by rw [← of_decide_eq_true e]; exact (K.dirs y hy).1))
      rw [this]
      rfl
    rw [e]
    exact Maps.len_nil und_names 3

end Go.Proofs.YtemologkibcdoaaGreatDoor

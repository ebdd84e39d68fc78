/-
  Directories (stage 13): how a tree is printed; how much that is.
  strings.Builder's WriteString: what it leaves alone.
  Directories (stage 13): Print.
-/
import Derived.Test.YtdmmjidekpgmgaaGreatDoorM19
import Derived.Lib.OthersKept
import Derived.Lib.ItoaLen
/- Directories (stage 13): how a tree is printed; how much that is. -/
namespace Go.Proofs.YtdmmjidekpgmgaaGreatDoor
open Go.RowKit Go.Maps

noncomputable def cb (s : NS) (d : Int) : Nat := s.L.countP (fun x => belP s x.dir d)
open Classical in
noncomputable def cost (s : NS) (x : Nm) : Nat := 1 + if kdI s.T x.node = 2 then cb s x.node else 0
theorem iter_up {s : NS} (H : NInv s) {rk : Int → Nat} (hr : ∀ i, kdI s.T i = 2 → 1 ≤ nmI s.T i → i ≠ 1 → rk (s.par i) < rk i ∧ kdI s.T (s.par i) = 2 ∧ 1 ≤ nmI s.T (s.par i)) : ∀ (j : Nat) (d : Int), kdI s.T d = 2 → 1 ≤ nmI s.T d → rk (iterP s.par j d) ≤ rk d
  | 0, d, _, _ => Nat.le_refl _
  | j + 1, d, h1, h2 => by
    show rk (iterP s.par j (s.par d)) ≤ rk d
    by_cases e : d = 1
    · have hp : s.par d = d := by rw [e]; exact H.par1
      rw [hp]
      exact iter_up H hr j d h1 h2
    · obtain ⟨a, b, c⟩ := hr d h1 h2 e
      have := iter_up H hr j (s.par d) b c
      omega
theorem countP_one {α : Type} {p : α → Bool} : ∀ {E : List α}, E.Nodup → (∀ a ∈ E, ∀ b ∈ E, p a = true → p b = true → a = b) → E.countP p ≤ 1
  | [], _, _ => Nat.zero_le _
  | a :: E, hn, h => by
    obtain ⟨h1, h2⟩ := List.nodup_cons.1 hn
    rw [List.countP_cons]
    by_cases ha : p a = true
    · have : E.countP p = 0 := by
        rw [List.countP_eq_zero]
        intro b hb hpb
        have := h a List.mem_cons_self b (List.mem_cons_of_mem _ hb) ha hpb
        subst this
        exact h1 hb
      rw [this, if_pos ha]
      omega
    · rw [if_neg ha]
      have := countP_one h2 (fun a ha b hb => h a (List.mem_cons_of_mem _ ha) b (List.mem_cons_of_mem _ hb))
      omega
theorem sum_cons {α : Type} (p : α → Nm → Bool) (y : Nm) (L : List Nm) : ∀ E : List α, (E.map (fun x => (y :: L).countP (p x))).sum = (E.map (fun x => L.countP (p x))).sum + E.countP (fun x => p x y)
  | [] => rfl
  | x :: E => by
    have ih := sum_cons p y L E
    simp only [List.map_cons, List.sum_cons, List.countP_cons] at ih ⊢
    rw [ih]
    omega
theorem sum_le {α : Type} (p : α → Nm → Bool) (r : Nm → Bool) (E : List α) : ∀ L : List Nm, (∀ y ∈ L, E.countP (fun x => p x y) ≤ if r y then 1 else 0) → (E.map (fun x => L.countP (p x))).sum ≤ L.countP r
  | [], _ => by
    have : ∀ E : List α, (E.map (fun x => List.countP (p x) [])).sum = 0 := by
      intro E
      induction E with
      | nil => rfl
      | cons x E ih => rw [List.map_cons, List.sum_cons, ih]; rfl
    rw [this]
    exact Nat.zero_le _
  | y :: L, h => by
    have ih := sum_le p r E L (fun z hz => h z (List.mem_cons_of_mem _ hz))
    have hy := h y List.mem_cons_self
    rw [sum_cons, List.countP_cons]
    omega
open Classical in
/-- What is below a directory: its names, and what is below each of them. -/
theorem cost_sum {s : NS} (H : NInv s) {d : Int} (hd : kdI s.T d = 2) (hn : 1 ≤ nmI s.T d) : ((entN s.L d).map (cost s)).sum ≤ cb s d := by
  obtain ⟨rk, hr⟩ := H.up
  have hE : (entN s.L d).Nodup := List.Pairwise.filter _ H.srt.nodup
  have hin : ∀ x ∈ entN s.L d, x ∈ s.L ∧ x.dir = d := fun x hx => ent_mem.1 hx
  have hlt : ∀ x ∈ entN s.L d, kdI s.T x.node = 2 → rk d < rk x.node ∧ s.par x.node = d := fun x hx hk => by
    obtain ⟨h1, h2⟩ := hin x hx
    have hp := H.par x h1 hk
    have := hr x.node hk (NV.node1 H.names h1) (H.top x h1)
    rw [hp, h2] at this
    exact ⟨this.1, hp.trans h2⟩
  have h1 : ((entN s.L d).map (fun x => if kdI s.T x.node = 2 then cb s x.node else 0)).sum ≤ s.L.countP (fun y => belP s y.dir d && !decide (y.dir = d)) := by
    have e : (fun x : Nm => if kdI s.T x.node = 2 then cb s x.node else 0) = fun x : Nm => s.L.countP (fun y => decide (kdI s.T x.node = 2) && belP s y.dir x.node) := by
      funext x
      by_cases hk : kdI s.T x.node = 2
      · simp [hk, cb]
      · simp [hk]
    rw [e]
    refine sum_le (fun (x y : Nm) => decide (kdI s.T x.node = 2) && belP s y.dir x.node) _ _ _ (fun y hy => ?_)
    have hyd := H.dirs y hy
    by_cases hb : (belP s y.dir d && !decide (y.dir = d)) = true
    · rw [if_pos hb]
      refine countP_one hE (fun a ha b hb2 pa pb => ?_)
      simp only [Bool.and_eq_true, decide_eq_true_eq] at pa pb
      obtain ⟨m, hm⟩ := bel_iff.1 pa.2
      obtain ⟨m', hm'⟩ := bel_iff.1 pb.2
      have key : ∀ (u v : Nm), u ∈ entN s.L d → v ∈ entN s.L d → kdI s.T u.node = 2 → kdI s.T v.node = 2 → ∀ m m', iterP s.par m y.dir = u.node → iterP s.par m' y.dir = v.node → m ≤ m' → u.node = v.node := by
        intro u v hu hv ku kv m m' e1 e2 hmm
        obtain ⟨r, rfl⟩ : ∃ r, m' = m + r := ⟨m' - m, by omega⟩
        rw [iter_add, e1] at e2
        cases r with
        | zero => exact e2
        | succ r =>
          have e3 : iterP s.par r d = v.node := by
            rw [← (hlt u hu ku).2]
            exact e2
          have := iter_up H hr r d hd hn
          rw [e3] at this
          have := (hlt v hv kv).1
          omega
      have hnn : a.node = b.node := by
        rcases Nat.le_total m m' with hmm | hmm
        · exact key a b ha hb2 pa.1 pb.1 m m' hm hm' hmm
        · exact (key b a hb2 ha pb.1 pa.1 m' m hm' hm hmm).symm
      exact H.one a (hin a ha).1 b (hin b hb2).1 pa.1 hnn
    · rw [if_neg hb]
      refine Nat.le_of_eq (List.countP_eq_zero.2 (fun x hx hp => hb ?_))
      simp only [Bool.and_eq_true, decide_eq_true_eq] at hp
      obtain ⟨m, hm⟩ := bel_iff.1 hp.2
      have h2 := hlt x hx hp.1
      have e1 : belP s y.dir d = true := bel_iff.2 ⟨m + 1, by rw [iter_add, hm]; exact h2.2⟩
      have e2 : y.dir ≠ d := fun e => by
        have := iter_up H hr m d hd hn
        rw [e] at hm
        rw [hm] at this
        omega
      rw [e1]
      simp [e2]
  have h2 : ((entN s.L d).map (cost s)).sum = (entN s.L d).length + ((entN s.L d).map (fun x => if kdI s.T x.node = 2 then cb s x.node else 0)).sum := by
    generalize entN s.L d = E
    induction E with
    | nil => rfl
    | cons x E ih =>
      simp only [List.map_cons, List.sum_cons, List.length_cons, ih]
      unfold cost
      omega
  have h3 : (entN s.L d).length = s.L.countP (fun x => decide (x.dir = d)) := by
    unfold entN
    rw [List.countP_eq_length_filter]
  have h4 : s.L.countP (fun x => decide (x.dir = d)) + s.L.countP (fun y => belP s y.dir d && !decide (y.dir = d)) ≤ cb s d := by
    unfold cb
    generalize s.L = L
    induction L with
    | nil => simp
    | cons x L ih =>
      simp only [List.countP_cons]
      by_cases e : x.dir = d
      · have : belP s x.dir d = true := bel_iff.2 ⟨0, e⟩
        simp [e]
        rw [e] at this
        simp [this]
        omega
      · simp only [e, decide_false, Bool.not_false, Bool.and_true]
        by_cases hb : belP s x.dir d = true
        · simp [hb]; omega
        · simp [hb]; omega
  omega
/-- A tree as a text. -/
def prN (pd : Int → List UInt8 → List UInt8) (s : NS) (i : Int) (p : List UInt8) : List UInt8 :=
  p ++ (if kdI s.T i = 2 then [47, 10] ++ pd i p else if kdI s.T i = 3 then [32, 45, 62, 32] ++ datO (ndAt s.T i) ++ [10] else if kdI s.T i = 1 then [32] ++ Lib.itoa (sizeOfN (ndAt s.T i) : Int) ++ [10] ++ datO (ndAt s.T i) ++ [10] else [])
def prD (s : NS) : Nat → Int → List UInt8 → List UInt8
  | 0, _, _ => []
  | m + 1, d, p => (inL s.L d).flatMap (fun t => prN (prD s m) s (findN s d t) (p ++ [47] ++ t))

end Go.Proofs.YtdmmjidekpgmgaaGreatDoor

/- strings.Builder's WriteString: what it leaves alone. -/
namespace Go.Proofs.YtdmmjidekpgmgaaGreatDoor
open Go.RowKit Go.Maps

theorem check_k (B b : Nat) (bs : List Value) (w : World) (h : Lib.IsBuilder 108 5 B b bs w) :
    Calls Tryz.prog 171 #[.pointer (some ⟨b, 0, none⟩)] w fun e w' => e = .returned (.tuple #[]) ∧ Lib.BuilderAt 108 5 B b (.pointer (some ⟨b, 0, none⟩)) bs w' ∧ Below B w w' ∧ Lib.OthersKept 5 (some b) w w' := by
  rcases h with h | h
  · refine (check_fresh b w h.cell0 h.shape h.frozen0).mono ?_
    rintro e w' ⟨rfl, rfl⟩
    exact ⟨rfl, h.used _, (Below.refl B w).setCell (p := ⟨b, 0, none⟩) h.1 _, (Lib.OthersKept.refl 5 (some b) w).setCell _ rfl _⟩
  · refine (check_used b w h.cell0).mono ?_
    rintro e w' ⟨rfl, rfl⟩
    exact ⟨rfl, h, Below.refl B _, Lib.OthersKept.refl 5 (some b) _⟩
set_option maxRecDepth 20000 in
set_option maxHeartbeats 2000000 in
theorem bwrite_k (B b : Nat) (l : List UInt8) (s : ByteArray) (w : World) (h : Lib.IsBuilder 108 5 B b (Lib.byteCells l) w) (hlen : l.length + s.size ≤ 140737488355328) (hBw : B ≤ w.heap.size) :
    Calls Tryz.prog 147 #[.pointer (some ⟨b, 0, none⟩), .string s] w fun e w' => e = .returned (.tuple #[.int .i64 s.size, .nilIface]) ∧ Lib.IsBuilder 108 5 B b (Lib.byteCells (l ++ s.data.toList)) w' ∧ Below B w w' ∧ Lib.OthersKept 5 (some b) w w' := by
  obtain ⟨i0, hi, hz0, hz1, hz2⟩ := info2 info_byte
  have hcl : (Lib.byteCells l).length = l.length := by simp [Lib.byteCells]
  have HC := hide (check_k B b _ w h)
  clear h
  go_enter Tryz.func147, Tryz.ntmps147
  go_wp2_with fail
  refine (unhide HC).mono ?_
  rintro e w1 ⟨rfl, ⟨hB, v, hbk, hown, hne⟩, hb1, hk1⟩
  have c1 : w1.cell? ⟨b, 1, none⟩ = some v := by rw [Lib.cell_of_heap hbk]; rfl
  have HK1 := hide hk1
  clear HC hk1
  go_wp2_with (first
    | (at_builtin; refine Lib.wpList_append_own_string _ rfl (.tmp 12) (.tmp 13) 106 9 rfl B 5 i0 und_bytes und_str hi hz0 hz1 hz2 _ _ _ rfl hown s rfl ?c3 ?c4 ?c5 ?_)
    | go_in)
  case c3 => unfold maxLen; omega
  case c4 => omega
  case c5 => have := hb1.size; omega
  intro v' w2 hown' hgrow _
  have hlt : b < w1.heap.size := (Array.getElem?_eq_some_iff.1 hbk).1
  have hb2 : w2.heap[b]? = some (.cells #[.pointer (some ⟨b, 0, none⟩), v] 108 (0, 0)) := by
    rw [hgrow.block b hlt (fun e => hne e.symm)]
    exact hbk
  have d1 : w2.cell? ⟨b, 1, none⟩ = some v := by rw [Lib.cell_of_heap hb2]; rfl
  have f1 : w2.frozen? ⟨b, 1, none⟩ = false := Lib.frozen_of_heap hb2 1
  obtain ⟨ao, n', cap, rfl⟩ : ∃ ao n' cap, v' = .slice ao n' cap := by
    rcases hown'.2 with ⟨hv, _⟩ | ⟨g, cap, cur, hv, _⟩
    · exact ⟨_, _, _, hv⟩
    · exact ⟨_, _, _, hv⟩
  have hcs : Lib.byteCells l ++ Lib.strCells s = Lib.byteCells (l ++ s.data.toList) := by rw [byteCells_append]; rfl
  have HO := hide (show w2.ownsRow B 5 1 (.slice ao n' cap) (Lib.byteCells (l ++ s.data.toList)).length (Lib.byteCells (l ++ s.data.toList)) by
    rw [← hcs, List.length_append, Lib.strCells_length, hcl]; exact hown')
  have HKK : Hid (Lib.OthersKept 5 (some b) w w2) := hide ((unhide HK1).grown hgrow (fun g hg => by
    rcases hown.2 with ⟨hv, _⟩ | ⟨g', cap', cur, hv, _, hg', _⟩
    · rw [hv] at hg; cases hg
    · rw [hv] at hg
      injection hg with hg
      have hg : g' = g := hg
      subst hg
      exact ⟨cur, (0, 0), hg'⟩))
  have HG := hide hgrow
  have HW := hide hown
  have HH := hide hb2
  clear hcs hown' hgrow hown hb2 hcl hbk hne
  go_wp2
  go_ret2
  refine ⟨rfl, .inr ?_, ?_, ?_⟩
  · exact Lib.BuilderAt.put (T := 108) (e := 5) hB (unhide HH) (unhide HO) (by decide)
  · exact (hb1.grown (unhide HG) (by have := hb1.size; omega) (fun k hk => ((unhide HW).lt k hk).1)).setCell (p := ⟨b, 1, none⟩) hB _
  · exact (unhide HKK).setCell _ rfl _
theorem BA_add (a b : List UInt8) : BA a ++ BA b = BA (a ++ b) := by
  unfold BA
  apply ByteArray.ext
  simp
/-- While a tree is printed: b the builder, out what it has. -/
structure PrX (w0 W : World) (q : Nat) (Y : Nat → Prop) (s : NS) (nb n : Nat) (B : World) (out : List UInt8) : Prop where
  nd : NdX W q (Upto w0 Y) s nb n B
  bel : Below w0.heap.size w0 W
  bld : Lib.IsBuilder 108 5 w0.heap.size w0.heap.size (Lib.byteCells out) W
  le : B.heap.size ≤ w0.heap.size
theorem PrX.below {w0 W W' : World} {q nb n : Nat} {B : World} {Y : Nat → Prop} {s : NS} {out : List UInt8} (H : PrX w0 W q Y s nb n B out) (hb : Below W.heap.size W W') : PrX w0 W' q Y s nb n B out := ⟨H.nd.below hb, H.bel.trans (hb.mono H.bel.size), bld_keep H.bld hb, H.le⟩
theorem kept_of_below {w w' : World} (h : Below w.heap.size w w') (b : Option Nat) : Lib.OthersKept 5 b w w' := fun k _ hk _ _ => (h.block k (Array.getElem?_eq_some_iff.1 hk).1).trans hk
theorem PrX.write {w0 W : World} {q nb n : Nat} {B : World} {Y : Nat → Prop} {s : NS} {out : List UInt8} (H : PrX w0 W q Y s nb n B out) (t : List UInt8) (hl : out.length + t.length ≤ 1000000000) : Calls Tryz.prog 147 #[.pointer (some ⟨w0.heap.size, 0, none⟩), .string (BA t)] W fun e w' => e = .returned (.tuple #[.int .i64 (t.length : Int), .nilIface]) ∧ Hid (PrX w0 w' q Y s nb n B (out ++ t) ∧ Lib.OthersKept 5 (some w0.heap.size) W w') :=
  (bwrite_k w0.heap.size w0.heap.size out (BA t) W H.bld (by rw [BA_size]; omega) H.bel.size).mono fun _ w' ⟨e1, e2, e3, e4⟩ => ⟨e1, hide ⟨⟨H.nd.grownS (S := fun k => w0.heap.size ≤ k) ⟨e3.os, e3.tape, e3.output, e3.size, fun k hk hn => e3.block k (Nat.lt_of_not_le hn)⟩ (fun k _ hk h => by have := hk.2; omega) (fun k hk => Nat.le_trans H.le hk), H.bel.trans e3, e2, H.le⟩, e4⟩⟩
theorem TRow.kept {w w' : World} {v : Value} {l : List (List UInt8)} {b : Nat} (h : TRow w v l) (hk : Lib.OthersKept 5 (some b) w w') (hb : ∀ k, v.ownBlock = some k → k ≠ b) : TRow w' v l := by
  rcases h with h | ⟨g, cap, cs, rfl, h1, h2, h3, h4⟩
  · exact .inl h
  · exact .inr ⟨g, cap, cs, rfl, h1, h2, hk g _ h3 (fun e => hb g rfl (Option.some.inj e)) (fun c fz e => by injection e with _ e2 _; exact absurd e2 (by decide)), h4⟩

end Go.Proofs.YtdmmjidekpgmgaaGreatDoor

/- Directories (stage 13): Print. -/
namespace Go.Proofs.YtdmmjidekpgmgaaGreatDoor
open Go.RowKit Go.Maps

theorem below_grow (w : World) (n : Nat) (os : Array Obj) : Below w.heap.size w (Sort.grow (w.drewN n) os) :=
  ⟨rfl, rfl, rfl, by simp [Sort.grow], fun i hi => by
    show ((w.drewN n).heap ++ os)[i]? = _
    rw [Array.getElem?_append_left (by show i < w.heap.size; omega)]
    rfl⟩
/-- How many bytes a name is printed with, at most. -/
def KB (n : Nat) : Nat := 33 * n + 5000
/-- What printDir leaves, at a level. -/
def PDAt (w0 : World) (q : Nat) (Y : Nat → Prop) (s : NS) (nb n : Nat) (B : World) (m : Nat) : Prop := ∀ (W : World) (d : Int) (p out : List UInt8), PrX w0 W q Y s nb n B out → kdI s.T d = 2 → 1 ≤ nmI s.T d → cb s d ≤ m → p.length + 33 * cb s d ≤ 33 * n → out.length + KB n * cb s d ≤ 1000000000 → Calls Tryz.prog 73 #[.pointer (some ⟨q, 0, none⟩), .pointer (some ⟨w0.heap.size, 0, none⟩), .int .i64 d, .string (BA p)] W fun e w' => e = .returned (.tuple #[]) ∧ Hid (PrX w0 w' q Y s nb n B (out ++ prD s m d p) ∧ Lib.OthersKept 5 (some w0.heap.size) W w' ∧ (prD s m d p).length ≤ KB n * cb s d)
open Classical in
noncomputable def cst (s : NS) (i : Int) : Nat := 1 + if kdI s.T i = 2 then cb s i else 0
/-- A step of printing. -/
def PrTo (w0 W w' : World) (q : Nat) (Y : Nat → Prop) (s : NS) (nb n : Nat) (B : World) (out t : List UInt8) : Prop := PrX w0 w' q Y s nb n B (out ++ t) ∧ Lib.OthersKept 5 (some w0.heap.size) W w'
theorem PrTo.trans {w0 W w' w'' : World} {q nb n : Nat} {B : World} {Y : Nat → Prop} {s : NS} {out t u : List UInt8} (h : PrTo w0 W w' q Y s nb n B out t) (h2 : PrTo w0 w' w'' q Y s nb n B (out ++ t) u) : PrTo w0 W w'' q Y s nb n B out (t ++ u) := ⟨by rw [← List.append_assoc]; exact h2.1, h.2.trans h2.2⟩
set_option maxRecDepth 20000 in
set_option maxHeartbeats 4000000 in
theorem printNode_any {w0 W : World} {q nb n : Nat} {B : World} {m : Nat} {Y : Nat → Prop} {s : NS} (hpw : PowB B) (PD : PDAt w0 q Y s nb n B m) (i : Int) (p out : List UInt8) (H : PrX w0 W q Y s nb n B out) (hn : n ≤ 1000) (hi : 1 ≤ i ∧ i ≤ 1024) (hd : kdI s.T i = 2 → 1 ≤ nmI s.T i ∧ cb s i ≤ m ∧ p.length + 33 * cb s i ≤ 33 * n) (hp : p.length ≤ 33 * n) (ho : out.length + KB n * cst s i ≤ 1000000000) : Calls Tryz.prog 124 #[.pointer (some ⟨q, 0, none⟩), .pointer (some ⟨w0.heap.size, 0, none⟩), .int .i64 i, .string (BA p)] W fun e w' => e = .returned (.tuple #[]) ∧ Hid (PrTo w0 W w' q Y s nb n B out (prN (prD s m) s i p) ∧ (prN (prD s m) s i p).length ≤ KB n * cst s i) := by
  have hKB : KB n ≤ 38000 := by unfold KB; omega
  have hK1 : KB n * 1 ≤ KB n * cst s i := Nat.mul_le_mul_left _ (by unfold cst; omega)
  have hK2 : 33 * n + 5000 = KB n := rfl
  have hdm := dat_max H.nd.ok i
  have HW1 := hide (H.write p (by omega))
  have HKD : Hid (∀ w1, PrX w0 w1 q Y s nb n B (out ++ p) → ∃ t, w1.cell? ⟨q, 0, none⟩ = some (.pointer (some ⟨t, 0, none⟩)) ∧ Calls Tryz.prog 109 #[.pointer (some ⟨t, 0, none⟩), .int .i64 i] w1 (fun e w' => e = .returned (.int .i64 (kdI s.T i : Int)) ∧ w' = w1) ∧ Calls Tryz.prog 80 #[.pointer (some ⟨t, 0, none⟩), .int .i64 i] w1 (fun e w' => e = .returned (.int .i64 (sizeOfN (ndAt s.T i) : Int)) ∧ w' = w1)) := hide (fun w1 h => by
    obtain ⟨t, dm, M, X, HL, _⟩ := h.nd.at'
    exact ⟨t, HL.nds.cell 0 rfl, HL.kind i (by omega), HL.size i (by omega)⟩)
  have HBY : Hid (∀ w1, PrX w0 w1 q Y s nb n B (out ++ p) → Calls Tryz.prog 85 #[.pointer (some ⟨q, 0, none⟩), .int .i64 i] w1 fun e w' => e = .returned (.string (BA (datO (ndAt s.T i)))) ∧ Below w1.heap.size w1 w') := hide (fun w1 h => nbytes_any h.nd i (by omega))
  have HWR : Hid (∀ w1 t, PrX w0 w1 q Y s nb n B (out ++ p) → t.length ≤ 4800 → Calls Tryz.prog 147 #[.pointer (some ⟨w0.heap.size, 0, none⟩), .string (BA t)] w1 fun e w' => e = .returned (.tuple #[.int .i64 (t.length : Int), .nilIface]) ∧ Hid (PrTo w0 w1 w' q Y s nb n B (out ++ p) t)) := hide (fun w1 t h ht => (h.write t (by rw [List.length_append]; omega)).mono fun _ _ h => h)
  have hsz : sizeOfN (ndAt s.T i) ≤ 4096 := by
    have e : (datO (ndAt s.T i)).length = sizeOfN (ndAt s.T i) := by
      cases ndAt s.T i with
      | none => rfl
      | some x => exact datOf_len x
    omega
  have HPN : Hid (prN (prD s m) s i p = p ++ (if kdI s.T i = 2 then [47, 10] ++ prD s m i p else if kdI s.T i = 3 then [32, 45, 62, 32] ++ datO (ndAt s.T i) ++ [10] else if kdI s.T i = 1 then [32] ++ Lib.itoa (sizeOfN (ndAt s.T i) : Int) ++ [10] ++ datO (ndAt s.T i) ++ [10] else [])) := hide rfl
  obtain ⟨RR, hRR⟩ : ∃ RR, RR = prN (prD s m) s i p := ⟨_, rfl⟩
  rw [← hRR] at HPN ⊢
  obtain ⟨D, hD⟩ : ∃ D, D = datO (ndAt s.T i) := ⟨_, rfl⟩
  rw [← hD] at HPN HBY hdm
  obtain ⟨z, hz⟩ : ∃ z, z = sizeOfN (ndAt s.T i) := ⟨_, rfl⟩
  rw [← hz] at HPN HKD hsz
  have HIT := hide (Lib.itoa_length_le (z : Int) (by omega) (by omega))
  have HIA : Hid (∀ w1, PrX w0 w1 q Y s nb n B (out ++ p) → Calls Tryz.prog 148 #[.int .i64 (z : Int)] w1 fun e w' => e = .returned (.string (BA (Lib.itoa (z : Int)))) ∧ Below w1.heap.size w1 w') := hide (fun w1 h => (Tryz.strconv_Itoa (z : Int) (by omega) (by omega) w1 (h.nd.env.pow hpw)).mono fun _ w' ⟨e1, k, os, e2⟩ => ⟨e1, by rw [e2]; exact below_grow _ _ _⟩)
  obtain ⟨it, hit⟩ : ∃ it, it = Lib.itoa (z : Int) := ⟨_, rfl⟩
  rw [← hit] at HPN HIT HIA
  have hitl : it.length ≤ 21 := unhide HIT
  have HPD := hide PD
  have HD2 := hide hd
  have HO := hide ho
  have HCS : Hid (cst s i = 1 + if kdI s.T i = 2 then cb s i else 0) := hide rfl
  obtain ⟨k, hk⟩ : ∃ k, k = kdI s.T i := ⟨_, rfl⟩
  have HK := hide hk
  rw [← hk] at HKD HPN
  clear H PD hd ho hRR hD hz hit hk
  go_enter Tryz.func124, Tryz.ntmps124
  go_wp2_with fail
  refine (unhide HW1).mono ?_
  rintro e w1 ⟨rfl, HP1⟩
  obtain ⟨tt, c0, hkd, hszc⟩ := unhide HKD w1 (unhide HP1).1
  have HKC := hide hkd
  have HSC := hide hszc
  clear hkd hszc HW1 HKD
  by_cases h2 : k = 2
  · subst h2
    have HRR : Hid (RR = p ++ ([47, 10] ++ prD s m i p)) := hide (by rw [unhide HPN, if_pos rfl])
    have hcs : cst s i = 1 + cb s i := by rw [unhide HCS, if_pos (unhide HK).symm]
    have HC2 : Hid (KB n * cst s i = KB n + KB n * cb s i) := hide (by rw [hcs, Nat.mul_add, Nat.mul_one])
    have HW2 := hide (unhide HWR w1 [47, 10] (unhide HP1).1 (by decide))
    go_wp2_with fail
    refine (unhide HKC).mono ?_
    rintro e w2 ⟨rfl, hw2⟩
    subst hw2
    go_wp2_with fail
    refine (unhide HW2).mono ?_
    rintro e w3 ⟨rfl, HP3⟩
    have hd2 := unhide HD2 (unhide HK).symm
    have HP4 := hide (unhide HPD w3 i p (out ++ p ++ [47, 10]) (unhide HP3).1 (unhide HK).symm hd2.1 hd2.2.1 hd2.2.2 (by
      have := unhide HC2
      have := unhide HO
      simp only [List.length_append, List.length_cons, List.length_nil]
      omega))
    clear hd2 hcs
    go_wp2_with fail
    refine (unhide HP4).mono ?_
    rintro e w5 ⟨rfl, HP5⟩
    go_wp2_with fail
    refine bodyPost_end (res0 rfl _ _) rfl ⟨rfl, hide ⟨?_, ?_⟩⟩
    · rw [unhide HRR]
      exact PrTo.trans (t := p) (unhide HP1) (PrTo.trans (t := [47, 10]) (unhide HP3) ⟨(unhide HP5).1, (unhide HP5).2.1⟩)
    · rw [unhide HRR]
      have h5 := (unhide HP5).2.2
      have := unhide HC2
      simp only [List.length_append, List.length_cons, List.length_nil]
      omega
  · by_cases h3 : k = 3
    · subst h3
      have HRR : Hid (RR = p ++ ([32, 45, 62, 32] ++ D ++ [10])) := hide (by rw [unhide HPN, if_neg (by decide), if_pos rfl])
      have HBC := hide (unhide HBY w1 (unhide HP1).1)
      have hDl : D.length ≤ 10000 := by omega
      have hcat1 : (⟨#[32, 45, 62, 32]⟩ : ByteArray) ++ BA D = BA ([32, 45, 62, 32] ++ D) := BA_add [32, 45, 62, 32] D
      have hcat2 : BA ([32, 45, 62, 32] ++ D) ++ (⟨#[10]⟩ : ByteArray) = BA ([32, 45, 62, 32] ++ D ++ [10]) := BA_add _ [10]
      have HC1 := hide hcat1
      have HC2 := hide hcat2
      clear hcat1 hcat2
      go_wp2_with fail
      refine (unhide HKC).mono ?_
      rintro e w2 ⟨rfl, hw2⟩
      subst hw2
      go_wp2_with fail
      refine (unhide HBC).mono ?_
      rintro e w3 ⟨rfl, b3⟩
      have HP3 := hide ((unhide HP1).1.below b3)
      have HB3 := hide b3
      have HW4 := hide (unhide HWR w3 ([32, 45, 62, 32] ++ D ++ [10]) (unhide HP3) (by simp only [List.length_append, List.length_cons, List.length_nil]; omega))
      clear b3 c0
      go_wp2_with fail
      rw [unhide HC1, unhide HC2]
      refine (unhide HW4).mono ?_
      rintro e w5 ⟨rfl, HP5⟩
      go_wp2_with fail
      refine bodyPost_end (res0 rfl _ _) rfl ⟨rfl, hide ⟨?_, ?_⟩⟩
      · rw [unhide HRR]
        exact PrTo.trans (t := p) (unhide HP1) ⟨(unhide HP5).1, (kept_of_below (unhide HB3) _).trans (unhide HP5).2⟩
      · rw [unhide HRR]
        simp only [List.length_append, List.length_cons, List.length_nil]
        omega
    · by_cases h1 : k = 1
      · subst h1
        have HRR : Hid (RR = p ++ ([32] ++ it ++ [10] ++ D ++ [10])) := hide (by rw [unhide HPN, if_neg (by decide), if_neg (by decide), if_pos rfl])
        have HIC := hide (unhide HIA w1 (unhide HP1).1)
        have hDl : D.length ≤ 10000 := by omega
        have HC1 : Hid ((⟨#[32]⟩ : ByteArray) ++ BA it = BA ([32] ++ it)) := hide (BA_add [32] it)
        have HC2 : Hid (BA ([32] ++ it) ++ (⟨#[10]⟩ : ByteArray) = BA ([32] ++ it ++ [10])) := hide (BA_add _ [10])
        have HC3 : Hid (BA ([32] ++ it ++ [10]) ++ BA D = BA ([32] ++ it ++ [10] ++ D)) := hide (BA_add _ D)
        have HC4 : Hid (BA ([32] ++ it ++ [10] ++ D) ++ (⟨#[10]⟩ : ByteArray) = BA ([32] ++ it ++ [10] ++ D ++ [10])) := hide (BA_add _ [10])
        go_wp2_with fail
        refine (unhide HKC).mono ?_
        rintro e w2 ⟨rfl, hw2⟩
        have hw3 := hw2.symm
        subst hw3
        clear hw2
        go_wp2_with fail
        refine (unhide HSC).mono ?_
        rintro e w2 ⟨rfl, hw2⟩
        have hw3 := hw2.symm
        subst hw3
        clear hw2
        go_wp2_with fail
        refine (unhide HIC).mono ?_
        rintro e w3 ⟨rfl, b3⟩
        have HP3 := hide ((unhide HP1).1.below b3)
        have HB3 := hide b3
        have HBC := hide (unhide HBY w3 (unhide HP3))
        clear b3 c0
        go_wp2_with fail
        refine (unhide HBC).mono ?_
        rintro e w4 ⟨rfl, b4⟩
        have HP4 := hide ((unhide HP3).below b4)
        have HB4 := hide b4
        have HW4 := hide (unhide HWR w4 ([32] ++ it ++ [10] ++ D ++ [10]) (unhide HP4) (by simp only [List.length_append, List.length_cons, List.length_nil]; omega))
        clear b4
        go_wp2_with fail
        rw [unhide HC1, unhide HC2, unhide HC3, unhide HC4]
        refine (unhide HW4).mono ?_
        rintro e w5 ⟨rfl, HP5⟩
        go_wp2_with fail
        refine bodyPost_end (res0 rfl _ _) rfl ⟨rfl, hide ⟨?_, ?_⟩⟩
        · rw [unhide HRR]
          exact PrTo.trans (t := p) (unhide HP1) ⟨(unhide HP5).1, ((kept_of_below (unhide HB3) _).trans (kept_of_below (unhide HB4) _)).trans (unhide HP5).2⟩
        · rw [unhide HRR]
          simp only [List.length_append, List.length_cons, List.length_nil]
          omega
      · have g2 : (((k : Nat) : Int) == 2) = false := by rw [beq_eq_false_iff_ne]; omega
        have g3 : (((k : Nat) : Int) == 3) = false := by rw [beq_eq_false_iff_ne]; omega
        have g1 : (((k : Nat) : Int) == 1) = false := by rw [beq_eq_false_iff_ne]; omega
        have HRR : Hid (RR = p) := hide (by rw [unhide HPN, if_neg h2, if_neg h3, if_neg h1, List.append_nil])
        clear h1 h2 h3
        go_wp2_with fail
        refine (unhide HKC).mono ?_
        rintro e w2 ⟨rfl, hw2⟩
        subst hw2
        go_wp2_with fail
        refine bodyPost_end (res0 rfl _ _) rfl ⟨rfl, hide ⟨?_, ?_⟩⟩
        · rw [unhide HRR]; exact unhide HP1
        · rw [unhide HRR]; omega

end Go.Proofs.YtdmmjidekpgmgaaGreatDoor

/- Rows beside one another that a reader appends to: G the blocks of the rows.; What simple holds while it reads: the command's block, its three rows.; The parser's simple command. -/
import Derived.Test.YtojjfdobilkknaaGreatDoorM21
import Derived.Deep.LoopGhost
namespace Go.Proofs.YtojjfdobilkknaaGreatDoor
open Go.RowKit
def GrowsG {α : Type} (K : Kd α) (G : Nat → Prop) (w : World) (base : Nat) (v : Value) (l : List α) : Prop := ∃ css : List (List Value), w.ownsRow base K.t K.sz v l.length css.flatten ∧ css.length = l.length ∧ ∀ (i : Nat) (x : α) (cs : List Value), l[i]? = some x → css[i]? = some cs → ∃ lo hi, base ≤ lo ∧ hi ≤ w.heap.size ∧ (∀ g, G g → g < lo ∨ hi ≤ g) ∧ K.rel w (fun k => lo ≤ k ∧ k < hi) x cs
theorem growsG_nil {α : Type} (K : Kd α) (G : Nat → Prop) (w : World) (base : Nat) : GrowsG K G w base (.slice none 0 0) [] := ⟨[], World.ownsRow_nil _ _ _ _, rfl, fun i x cs h => by simp at h⟩
theorem GrowsG.fr {α : Type} {K : Kd α} {G : Nat → Prop} {w w' : World} {base b : Nat} {v : Value} {l : List α} (h : GrowsG K G w base v l) (hf : Fr w w' b) (hb : b < base) : GrowsG K G w' base v l := by
 obtain ⟨css, h1, h2, h3⟩ := h
 refine ⟨css, own_grownS h1 hf (fun k hk e => by have := (h1.lt k hk).1; omega), h2, fun i x cs hi hc => ?_⟩
 obtain ⟨lo, hi', a1, a2, a3, a4⟩ := h3 i x cs hi hc
 exact ⟨lo, hi', a1, lee a2 hf.size, a3, K.kept a4 (fun k hk => hf.block k (by omega) (fun e => by omega)) (fun _ hk => hk)⟩
theorem GrowsG.add {α : Type} {K : Kd α} {G : Nat → Prop} {w1 : World} {base lo : Nat} {v : Value} {l : List α} (h : GrowsG K G w1 base v l) (hlo : base ≤ lo) (hl1 : lo ≤ w1.heap.size) (hv : ∀ g, G g → g < lo) (hvG : ∀ g, v.ownBlock = some g → G g) {x : α} {cs : List Value} (hx : K.rel w1 (fun k => lo ≤ k ∧ k < w1.heap.size) x cs)
 (ts : TypeId) (i : TypeInfo) (z : Value) (bytes : Nat) (ht : Tryz.prog.underlying ts = some (.slice K.t)) (hi : Tryz.prog.info? K.t = some i) (hz : i.zero = some z) (hs : i.size = K.sz) (hby : i.bytes = bytes) (hzs : z.cells.size = K.sz) (hsz : 0 < K.sz) (hbs : bytes ≤ 1000) (hl : l.length ≤ 100000) :
 ∃ v' w3, (∀ ty, (Builtin.append_ #[ts, ts] ty #[v, .slice (some ⟨w1.heap.size, 0, none⟩) 1 1]).run Tryz.prog (w1.alloc (.cells cs.toArray K.t)) = .ok v' w3) ∧ (∀ G' : Nat → Prop, (∀ g, G' g → G g ∨ v'.ownBlock = some g) → GrowsG K G' w3 base v' (l ++ [x])) ∧ GrownS w1 w3 (fun k => base ≤ k) ∧ (∀ k, k < w1.heap.size → v.ownBlock ≠ some k → w3.heap[k]? = w1.heap[k]?) ∧ (∀ g, v'.ownBlock = some g → v.ownBlock = some g ∨ w1.heap.size ≤ g) ∧ (∃ ad n cap, v' = .slice ad n cap) := by
 obtain ⟨css, h1, h2, h3⟩ := h
 have hcl := K.len hx
 have hB : (l.length + 1) * bytes ≤ 100001 * 1000 := Nat.mul_le_mul (by omega) hbs
 have hbw : base ≤ (w1.alloc (.cells cs.toArray K.t)).heap.size := by simp; omega
 obtain ⟨v', w3, hr, o1, o2, _, o4⟩ := run_append_own_at (P := Tryz.prog) (w1.alloc (.cells cs.toArray K.t)) base ts 0 K.t i z K.sz bytes ht hi hz hs hby hzs hsz v l.length css.flatten (h1.alloc _) ⟨w1.heap.size, 0, none⟩ 1 1 cs (by rw [hcl, Nat.one_mul]) (fun j u hj => by
  have hb2 := Blk.new w1 K.t cs.toArray
  have : ((⟨w1.heap.size, 0, none⟩ : Addr).add j) = ⟨w1.heap.size, j, none⟩ := by
   by_cases h0 : j = 0
   ·subst h0; simp [Addr.add]
   ·simp [Addr.add, h0]
  rw [this]
  exact hb2.cell j (by rw [List.getElem?_toArray]; exact hj)) (K.one hx) (lee (by omega) (show (100001 : Nat) ≤ maxLen by decide)) (by omega) hbw
 have hg3 : w1.heap.size + 1 ≤ w3.heap.size := by have := o2.size; simpa using this
 have hkeep : ∀ k, k < w1.heap.size → v.ownBlock ≠ some k → w3.heap[k]? = w1.heap[k]? := fun k hk hne => (o2.block k (by simp; omega) (fun e => hne e.symm)).trans (heap_alloc_old w1 _ hk)
 have hvb : ∀ g, v'.ownBlock = some g → v.ownBlock = some g ∨ w1.heap.size ≤ g := fun g hg => by
  rcases o4 with o4 | o4
  ·exact .inl (o4 ▸ hg)
  ·rw [o4] at hg
   have := Option.some.inj hg
   right
   simp at this
   omega
 refine ⟨v', w3, fun _ => hr, fun G' hG => ⟨css ++ [cs], ?_, by simp [h2], fun j y cy hj hc => ?_⟩, ?_, hkeep, hvb, ?_⟩
 ·rw [List.flatten_append, List.flatten_singleton, List.length_append]
  exact o1
 ·have hG2 : ∀ g, G' g → G g ∨ w1.heap.size ≤ g := fun g hg => by
   rcases hG g hg with e | e
   ·exact .inl e
   ·rcases hvb g e with e | e
    ·exact .inl (hvG g e)
    ·exact .inr e
  by_cases hjl : j < l.length
  ·rw [List.getElem?_append_left hjl] at hj
   rw [List.getElem?_append_left (by omega)] at hc
   obtain ⟨lo', hi', a1, a2, a3, a4⟩ := h3 j y cy hj hc
   refine ⟨lo', hi', a1, by omega, fun g hg => ?_, K.kept a4 (fun k hk => hkeep k (by omega) (fun e => by have := a3 k (hvG k e); omega)) (fun _ hk => hk)⟩
   rcases hG2 g hg with e | e
   ·exact a3 g e
   ·exact .inr (by omega)
  ·rw [List.getElem?_append_right (by omega)] at hj
   rw [List.getElem?_append_right (by omega)] at hc
   obtain ⟨hj0, hjx⟩ := List.getElem?_eq_some_iff.1 hj
   obtain ⟨hc0, hcx⟩ := List.getElem?_eq_some_iff.1 hc
   simp at hj0 hjx hc0 hcx
   subst hjx hcx
   refine ⟨lo, w1.heap.size, hlo, by omega, fun g hg => ?_, K.kept hx (fun k hk => hkeep k hk.2 (fun e => by have := hv k (hvG k e); omega)) (fun _ hk => hk)⟩
   rcases hG2 g hg with e | e
   ·exact .inl (hv g e)
   ·exact .inr e
 ·refine ⟨o2.os, o2.tape, o2.output, by omega, fun k hk hne => ?_⟩
  exact hkeep k hk (fun e => hne (h1.lt k e).1)
 ·rcases o1.2 with ⟨e, _⟩ | ⟨g, cap, cur, e, _⟩
  ·exact ⟨_, _, _, e⟩
  ·exact ⟨_, _, _, e⟩
theorem GrowsG.other {α : Type} {K : Kd α} {G G' : Nat → Prop} {w1 w3 : World} {base : Nat} {v : Value} {l : List α} {r : Option Nat} (h : GrowsG K G w1 base v l) (hk : ∀ k, k < w1.heap.size → r ≠ some k → w3.heap[k]? = w1.heap[k]?) (hr : ∀ g, r = some g → G g) (hne : ∀ g, v.ownBlock = some g → r ≠ some g) (hs : w1.heap.size ≤ w3.heap.size) (hG : ∀ g, G' g → G g ∨ w1.heap.size ≤ g) : GrowsG K G' w3 base v l := by
 obtain ⟨css, h1, h2, h3⟩ := h
 refine ⟨css, ?_, h2, fun i x cs hi hc => ?_⟩
 ·obtain ⟨o0, o1 | ⟨g, cap, cur, rfl, o2, o3, o4⟩⟩ := h1
  ·exact ⟨o0, .inl o1⟩
  ·exact ⟨o0, .inr ⟨g, cap, cur, rfl, o2, (hk g (Array.getElem?_eq_some_iff.1 o3).1 (hne g rfl)).trans o3, o4⟩⟩
 ·obtain ⟨lo, hi', a1, a2, a3, a4⟩ := h3 i x cs hi hc
  refine ⟨lo, hi', a1, by omega, fun g hg => ?_, K.kept a4 (fun k hk' => hk k (by omega) (fun e => by have := a3 k (hr k e); omega)) (fun _ hk' => hk')⟩
  rcases hG g hg with e | e
  ·exact a3 g e
  ·exact .inr (by omega)
def cmC (vl vw vr : Value) : Array Value := #[.int .i64 1, .bool false, vl, vw, vr, .slice none 0 0, .string ⟨#[]⟩, .bool false, .slice none 0 0]
def G3 (vl vw vr : Value) (g : Nat) : Prop := vl.ownBlock = some g ∨ vw.ownBlock = some g ∨ vr.ownBlock = some g
structure Sp (w W : World) (base b nc : Nat) (mp : Value) (s : Pz) (vl vw vr : Value) (c : Pz.Smp) : Prop where
 leg : Leg w.heap.size b w W
 cb : Blk W nc 33 (cmC vl vw vr)
 pz : PzAt W b mp s
 env : PEnv W
 rl : GrowsG Kl (G3 vl vw vr) W base vl c.lets
 rw : GrowsG Kw (G3 vl vw vr) W base vw c.words
 rr : GrowsG Kr (G3 vl vw vr) W base vr c.redirs
 old : 7 ≤ b
 lt : b < nc
 new : w.heap.size ≤ nc
 top : nc < base
 fit : base ≤ W.heap.size
theorem GrowsG.own {α : Type} {K : Kd α} {G : Nat → Prop} {w : World} {base g : Nat} {v : Value} {l : List α} (h : GrowsG K G w base v l) (hg : v.ownBlock = some g) : base ≤ g ∧ g < w.heap.size ∧ ∃ cs, Blk w g K.t cs := by
 obtain ⟨css, h1, _⟩ := h
 have h2 := h1.lt g hg
 obtain ⟨_, ⟨e, _⟩ | ⟨g', cap, cur, e, _, o3, _⟩⟩ := h1
 ·rw [e] at hg
  cases hg
 ·rw [e] at hg
  have : g' = g := by simpa [Value.ownBlock] using hg
  subst this
  exact ⟨h2.1, h2.2, cur, o3⟩
theorem rows_ne {α β : Type} {K : Kd α} {M : Kd β} {G H : Nat → Prop} {w : World} {base : Nat} {v u : Value} {l : List α} {m : List β} (h : GrowsG K G w base v l) (h2 : GrowsG M H w base u m) (hne : K.t ≠ M.t) : ∀ g, v.ownBlock = some g → u.ownBlock ≠ some g := fun g hg hu => by
 obtain ⟨_, _, cs, k1⟩ := h.own hg
 obtain ⟨_, _, ds, k2⟩ := h2.own hu
 exact blk_ne' k1 k2 hne rfl
theorem Sp.low {w W : World} {base b nc : Nat} {mp : Value} {s : Pz} {vl vw vr : Value} {c : Pz.Smp} (h : Sp w W base b nc mp s vl vw vr c) : ∀ g, G3 vl vw vr g → base ≤ g ∧ g < W.heap.size := fun g hg => by
 rcases hg with e | e | e
 ·exact ⟨(h.rl.own e).1, (h.rl.own e).2.1⟩
 ·exact ⟨(h.rw.own e).1, (h.rw.own e).2.1⟩
 ·exact ⟨(h.rr.own e).1, (h.rr.own e).2.1⟩
theorem Sp.step {w W W' : World} {base b nc : Nat} {mp : Value} {s s' : Pz} {vl vw vr : Value} {c : Pz.Smp} (h : Sp w W base b nc mp s vl vw vr c) (hp : PzAt W' b mp s') (hf : Fr W W' b) : Sp w W' base b nc mp s' vl vw vr c := by
 have hb : b < base := Nat.lt_trans h.lt h.top
 exact ⟨h.leg.trans (leg_fr hf), h.cb.grownS hf (fun e => by have := h.lt; omega), hp, h.env.fr hf h.old, h.rl.fr hf hb, h.rw.fr hf hb, h.rr.fr hf hb, h.old, h.lt, h.new, h.top, lee h.fit hf.size⟩
theorem Sp.below {w W W' : World} {base b nc : Nat} {mp : Value} {s : Pz} {vl vw vr : Value} {c : Pz.Smp} (h : Sp w W base b nc mp s vl vw vr c) (hb : Below W.heap.size W W') : Sp w W' base b nc mp s vl vw vr c := h.step (h.pz.below hb) (fr_below hb)
theorem Sp.rest {w W1 w3 : World} {base b nc : Nat} {mp : Value} {s : Pz} {vl vw vr : Value} {c : Pz.Smp} (h : Sp w W1 base b nc mp s vl vw vr c) (hg : GrownS W1 w3 (fun k => base ≤ k)) : Leg w.heap.size b w w3 ∧ Blk w3 nc 33 (cmC vl vw vr) ∧ PzAt w3 b mp s ∧ PEnv w3 := by
 have h1 := h.lt
 have h2 := h.top
 have h3 := h.new
 have h4 := h.old
 exact ⟨h.leg.trans (hg.mono (fun k _ e => .inr (by omega))), h.cb.grownS hg (by omega), h.pz.grownS hg (fun k e => by omega), h.env.grown hg (fun k e => by omega)⟩
theorem Sp.addW' {w W W1 : World} {base b nc : Nat} {mp : Value} {s s1 : Pz} {vl vw vr : Value} {c : Pz.Smp} (h : Sp w W base b nc mp s vl vw vr c) (hp : PzAt W1 b mp s1) (hf : Fr W W1 b) {x : Wd} {v : Value} (hx : WAt W1 (New W W1) v x) (hl : c.words.length ≤ 100000) :
 ∃ ad n cap w3, (∀ ty, (Builtin.append_ #[29, 29] ty #[vw, .slice (some ⟨W1.heap.size, 0, none⟩) 1 1]).run Tryz.prog (W1.alloc (.cells #[v] 36)) = .ok (.slice ad n cap) w3) ∧ Blk w3 nc 33 (cmC vl vw vr) ∧ Sp w (w3.setCell ⟨nc, 3, none⟩ (.slice ad n cap)) base b nc mp s1 vl (.slice ad n cap) vr { c with words := c.words ++ [x] } ∧ GrownS W1 w3 (fun k => nc < k) := by
 have h1 := h.step hp hf
 obtain ⟨i, hi1, hi2, hi3, hi4⟩ := pinfo (t := Kw.t) (z := some (.slice none 0 0)) (a := Kw.sz) (c := 24) (by kernel_rfl)
 obtain ⟨v', w3, hr, ha, hg, hk, hvb, ad, n, cap, hv⟩ := h1.rw.add (lo := W.heap.size) h.fit hf.size (fun g hg => (h.low g hg).2) (fun g e => .inr (.inl e)) (cs := [v]) ⟨v, rfl, hx⟩ 29 i (.slice none 0 0) 24 (by kernel_rfl) hi1 hi2 hi3 hi4 (by kernel_rfl) (by decide) (by decide) hl
 subst hv
 obtain ⟨r1, r2, r3, r4⟩ := h1.rest hg
 have hG1 : ∀ g, (G3 vl (.slice ad n cap) vr) g → G3 vl vw vr g ∨ (Value.slice ad n cap).ownBlock = some g := fun g hg2 => by
  rcases hg2 with e | e | e
  ·exact .inl (.inl e)
  ·exact .inr e
  ·exact .inl (.inr (.inr e))
 have hG2 : ∀ g, (G3 vl (.slice ad n cap) vr) g → G3 vl vw vr g ∨ W1.heap.size ≤ g := fun g hg2 => by
  rcases hG1 g hg2 with e | e
  ·exact .inl e
  ·rcases hvb g e with e | e
   ·exact .inl (.inr (.inl e))
   ·exact .inr e
 have f3 := fr_set w3 nc 3 (.slice ad n cap)
 have hlt := h.lt
 have htop := h.top
 have hold := h.old
 exact ⟨ad, n, cap, w3, hr, r2, ⟨r1.trans (leg_new f3 h.new), r2.set 3 _, r3.grownS f3 (fun k e => by omega), r4.grown f3 (fun k e => by omega), (h1.rl.other (G' := G3 vl (.slice ad n cap) vr) (r := vw.ownBlock) hk (fun g e => .inr (.inl e)) (rows_ne h1.rl h1.rw (by decide)) hg.size hG2).fr f3 htop, (ha (G3 vl (.slice ad n cap) vr) hG1).fr f3 htop, (h1.rr.other (G' := G3 vl (.slice ad n cap) vr) (r := vw.ownBlock) hk (fun g e => .inr (.inl e)) (rows_ne h1.rr h1.rw (by decide)) hg.size hG2).fr f3 htop, h.old, h.lt, h.new, h.top, lee h1.fit (lee hg.size f3.size)⟩, hg.mono (fun k _ e => by omega)⟩
theorem Sp.addR' {w W W1 : World} {base b nc : Nat} {mp : Value} {s s1 : Pz} {vl vw vr : Value} {c : Pz.Smp} (h : Sp w W base b nc mp s vl vw vr c) (hp : PzAt W1 b mp s1) (hf : Fr W W1 b) {x : Int × Int × Wd} {v : Value} (hx : WAt W1 (New W W1) v x.2.2) (hl : c.redirs.length ≤ 100000) :
 ∃ ad n cap w3, (∀ ty, (Builtin.append_ #[30, 30] ty #[vr, .slice (some ⟨W1.heap.size, 0, none⟩) 1 1]).run Tryz.prog (W1.alloc (.cells #[.int .i64 x.1, .int .i64 x.2.1, v] 38)) = .ok (.slice ad n cap) w3) ∧ Blk w3 nc 33 (cmC vl vw vr) ∧ Sp w (w3.setCell ⟨nc, 4, none⟩ (.slice ad n cap)) base b nc mp s1 vl vw (.slice ad n cap) { c with redirs := c.redirs ++ [x] } ∧ GrownS W1 w3 (fun k => nc < k) := by
 have h1 := h.step hp hf
 obtain ⟨i, hi1, hi2, hi3, hi4⟩ := pinfo (t := Kr.t) (z := some (.agg #[.int .i64 0, .int .i64 0, .slice none 0 0])) (a := Kr.sz) (c := 40) (by kernel_rfl)
 obtain ⟨v', w3, hr, ha, hg, hk, hvb, ad, n, cap, hv⟩ := h1.rr.add (lo := W.heap.size) h.fit hf.size (fun g hg => (h.low g hg).2) (fun g e => .inr (.inr e)) (cs := [.int .i64 x.1, .int .i64 x.2.1, v]) ⟨v, rfl, hx⟩ 30 i (.agg #[.int .i64 0, .int .i64 0, .slice none 0 0]) 40 (by kernel_rfl) hi1 hi2 hi3 hi4 (by kernel_rfl) (by decide) (by decide) hl
 subst hv
 obtain ⟨r1, r2, r3, r4⟩ := h1.rest hg
 have hG1 : ∀ g, (G3 vl vw (.slice ad n cap)) g → G3 vl vw vr g ∨ (Value.slice ad n cap).ownBlock = some g := fun g hg2 => by
  rcases hg2 with e | e | e
  ·exact .inl (.inl e)
  ·exact .inl (.inr (.inl e))
  ·exact .inr e
 have hG2 : ∀ g, (G3 vl vw (.slice ad n cap)) g → G3 vl vw vr g ∨ W1.heap.size ≤ g := fun g hg2 => by
  rcases hG1 g hg2 with e | e
  ·exact .inl e
  ·rcases hvb g e with e | e
   ·exact .inl (.inr (.inr e))
   ·exact .inr e
 have f3 := fr_set w3 nc 4 (.slice ad n cap)
 have hlt := h.lt
 have htop := h.top
 have hold := h.old
 exact ⟨ad, n, cap, w3, hr, r2, ⟨r1.trans (leg_new f3 h.new), r2.set 4 _, r3.grownS f3 (fun k e => by omega), r4.grown f3 (fun k e => by omega), (h1.rl.other (G' := G3 vl vw (.slice ad n cap)) (r := vr.ownBlock) hk (fun g e => .inr (.inr e)) (rows_ne h1.rl h1.rr (by decide)) hg.size hG2).fr f3 htop, (h1.rw.other (G' := G3 vl vw (.slice ad n cap)) (r := vr.ownBlock) hk (fun g e => .inr (.inr e)) (rows_ne h1.rw h1.rr (by decide)) hg.size hG2).fr f3 htop, (ha (G3 vl vw (.slice ad n cap)) hG1).fr f3 htop, h.old, h.lt, h.new, h.top, lee h1.fit (lee hg.size f3.size)⟩, hg.mono (fun k _ e => by omega)⟩
theorem Sp.addL' {w W W1 : World} {base b nc : Nat} {mp : Value} {s s1 : Pz} {vl vw vr : Value} {c : Pz.Smp} (h : Sp w W base b nc mp s vl vw vr c) (hp : PzAt W1 b mp s1) (hf : Fr W W1 b) {x : List UInt8 × Wd} {v : Value} (hx : WAt W1 (New W W1) v x.2) (hl : c.lets.length ≤ 100000) :
 ∃ ad n cap w3, (∀ ty, (Builtin.append_ #[28, 28] ty #[vl, .slice (some ⟨W1.heap.size, 0, none⟩) 1 1]).run Tryz.prog (W1.alloc (.cells #[.string (BA x.1), v] 51)) = .ok (.slice ad n cap) w3) ∧ Blk w3 nc 33 (cmC vl vw vr) ∧ Sp w (w3.setCell ⟨nc, 2, none⟩ (.slice ad n cap)) base b nc mp s1 (.slice ad n cap) vw vr { c with lets := c.lets ++ [x] } ∧ GrownS W1 w3 (fun k => nc < k) := by
 have h1 := h.step hp hf
 obtain ⟨i, hi1, hi2, hi3, hi4⟩ := pinfo (t := Kl.t) (z := some (.agg #[.string ⟨#[]⟩, .slice none 0 0])) (a := Kl.sz) (c := 40) (by kernel_rfl)
 obtain ⟨v', w3, hr, ha, hg, hk, hvb, ad, n, cap, hv⟩ := h1.rl.add (lo := W.heap.size) h.fit hf.size (fun g hg => (h.low g hg).2) (fun g e => .inl e) (cs := [.string (BA x.1), v]) ⟨v, rfl, hx⟩ 28 i (.agg #[.string ⟨#[]⟩, .slice none 0 0]) 40 (by kernel_rfl) hi1 hi2 hi3 hi4 (by kernel_rfl) (by decide) (by decide) hl
 subst hv
 obtain ⟨r1, r2, r3, r4⟩ := h1.rest hg
 have hG1 : ∀ g, (G3 (.slice ad n cap) vw vr) g → G3 vl vw vr g ∨ (Value.slice ad n cap).ownBlock = some g := fun g hg2 => by
  rcases hg2 with e | e | e
  ·exact .inr e
  ·exact .inl (.inr (.inl e))
  ·exact .inl (.inr (.inr e))
 have hG2 : ∀ g, (G3 (.slice ad n cap) vw vr) g → G3 vl vw vr g ∨ W1.heap.size ≤ g := fun g hg2 => by
  rcases hG1 g hg2 with e | e
  ·exact .inl e
  ·rcases hvb g e with e | e
   ·exact .inl (.inl e)
   ·exact .inr e
 have f3 := fr_set w3 nc 2 (.slice ad n cap)
 have hlt := h.lt
 have htop := h.top
 have hold := h.old
 exact ⟨ad, n, cap, w3, hr, r2, ⟨r1.trans (leg_new f3 h.new), r2.set 2 _, r3.grownS f3 (fun k e => by omega), r4.grown f3 (fun k e => by omega), (ha (G3 (.slice ad n cap) vw vr) hG1).fr f3 htop, (h1.rw.other (G' := G3 (.slice ad n cap) vw vr) (r := vl.ownBlock) hk (fun g e => .inl e) (rows_ne h1.rw h1.rl (by decide)) hg.size hG2).fr f3 htop, (h1.rr.other (G' := G3 (.slice ad n cap) vw vr) (r := vl.ownBlock) hk (fun g e => .inl e) (rows_ne h1.rr h1.rl (by decide)) hg.size hG2).fr f3 htop, h.old, h.lt, h.new, h.top, lee h1.fit (lee hg.size f3.size)⟩, hg.mono (fun k _ e => by omega)⟩
theorem GrowsG.done {α : Type} {K : Kd α} {G : Nat → Prop} {W : World} {base : Nat} {v : Value} {l : List α} (h : GrowsG K G W base v l) : RowAt K W (fun k => base ≤ k ∧ k < W.heap.size) v l := by
 obtain ⟨css, o, h2, h3⟩ := h
 have hall : ∀ c ∈ css, c.length = K.sz := fun c hc => by
  obtain ⟨i, hi⟩ := List.getElem?_of_mem hc
  have hil := (List.getElem?_eq_some_iff.1 hi).1
  obtain ⟨_, _, _, _, _, a4⟩ := h3 i _ c (List.getElem?_eq_getElem (by omega)) hi
  exact K.len a4
 obtain ⟨o0, ⟨e1, e2⟩ | ⟨g, cap, cur, e1, hbg, hg, hnc, _, hcs, htk⟩⟩ := o
 ·exact ⟨none, 0, by rw [e1, e2], .inl (List.eq_nil_of_length_eq_zero e2)⟩
 ·refine ⟨_, cap, e1, .inr ⟨g, cur, rfl, ⟨hbg, (Array.getElem?_eq_some_iff.1 hg).1⟩, hg, fun i x hx => ?_⟩⟩
  have hil := (List.getElem?_eq_some_iff.1 hx).1
  obtain ⟨cs, hc⟩ : ∃ cs, css[i]? = some cs := ⟨_, List.getElem?_eq_getElem (by omega)⟩
  obtain ⟨lo, hi, a1, a2, _, a4⟩ := h3 i x cs hx hc
  refine ⟨cs, K.kept a4 (fun _ _ => rfl) (fun k hk => ⟨by omega, by omega⟩), fun j u hu => ?_⟩
  have h7 := flat_get hall hc hu
  rw [← htk, List.getElem?_take] at h7
  split at h7
  ·simpa using h7
  ·cases h7
theorem RowAt.kept {α : Type} {K : Kd α} {w w' : World} {A B : Nat → Prop} {v : Value} {l : List α} (h : RowAt K w A v l) (hk : ∀ k, A k → w'.heap[k]? = w.heap[k]?) (hm : ∀ k, A k → B k) : RowAt K w' B v l := by
 obtain ⟨ad, cap, h1, h2 | ⟨g, cur, h3, h4, h5, h6⟩⟩ := h
 ·exact ⟨ad, cap, h1, .inl h2⟩
 ·refine ⟨ad, cap, h1, .inr ⟨g, cur, h3, hm g h4, (hk g h4).trans h5, fun i x hx => ?_⟩⟩
  obtain ⟨cs, c1, c2⟩ := h6 i x hx
  exact ⟨cs, K.kept c1 hk hm, c2⟩
def T9 (w : World) (g : Nat) (vl vw vr : Value) : World := ((((((((w.setCell ⟨g, 0, none⟩ (.int .i64 1)).setCell ⟨g, 1, none⟩ (.bool false)).setCell ⟨g, 2, none⟩ vl).setCell ⟨g, 3, none⟩ vw).setCell ⟨g, 4, none⟩ vr).setCell ⟨g, 5, none⟩ (.slice none 0 0)).setCell ⟨g, 6, none⟩ (.string ⟨#[]⟩)).setCell ⟨g, 7, none⟩ (.bool false)).setCell ⟨g, 8, none⟩ (.slice none 0 0)
theorem T9_blk {w : World} {g : Nat} (h : Blk w g 33 #[.int .i64 0, .bool false, .slice none 0 0, .slice none 0 0, .slice none 0 0, .slice none 0 0, .string ⟨#[]⟩, .bool false, .slice none 0 0]) (vl vw vr : Value) : Blk (T9 w g vl vw vr) g 33 (cmC vl vw vr) := ((((((((h.set 0 _).set 1 _).set 2 _).set 3 _).set 4 _).set 5 _).set 6 _).set 7 _).set 8 _
theorem T9_grown (w : World) (g : Nat) (vl vw vr : Value) : GrownS w (T9 w g vl vw vr) (fun k => k = g) := ((((((((fr_set w g 0 _).trans (fr_set _ g 1 _)).trans (fr_set _ g 2 _)).trans (fr_set _ g 3 _)).trans (fr_set _ g 4 _)).trans (fr_set _ g 5 _)).trans (fr_set _ g 6 _)).trans (fr_set _ g 7 _)).trans (fr_set _ g 8 _)
def SimpEnd (w F : World) (b nb : Nat) (mp : Value) (s : Pz) (vl vw vr : Value) (c : Pz.Smp) : Prop := Blk F nb 33 (cmC vl vw vr) ∧ RowAt Kl F (New w F) vl c.lets ∧ RowAt Kw F (New w F) vw c.words ∧ RowAt Kr F (New w F) vr c.redirs ∧ PzAt F b mp s ∧ Fr w F b
theorem Sp.fin {w W : World} {base b nb nc : Nat} {mp : Value} {s : Pz} {vl vw vr : Value} {c : Pz.Smp} (h : Sp w W base b nc mp s vl vw vr c) (hn : Blk W nb 33 #[.int .i64 0, .bool false, .slice none 0 0, .slice none 0 0, .slice none 0 0, .slice none 0 0, .string ⟨#[]⟩, .bool false, .slice none 0 0]) (h1 : w.heap.size ≤ nb) (h2 : nb < nc) (h3 : b < nb) : SimpEnd w (T9 W nb vl vw vr) b nb mp s vl vw vr c := by
 have g := T9_grown W nb vl vw vr
 have htop := h.top
 have hk : ∀ k, base ≤ k ∧ k < W.heap.size → (T9 W nb vl vw vr).heap[k]? = W.heap[k]? := fun k hk => g.block k hk.2 (by omega)
 have hm : ∀ k, base ≤ k ∧ k < W.heap.size → New w (T9 W nb vl vw vr) k := fun k hk => ⟨by omega, lle hk.2 g.size⟩
 exact ⟨T9_blk hn vl vw vr, h.rl.done.kept hk hm, h.rw.done.kept hk hm, h.rr.done.kept hk hm, h.pz.grownS g (fun k e => by omega), (h.leg.trans (leg_new g h1)).fr⟩
theorem lets_less {s : Pz} {n : Nat} (h : s.toks.length ≤ n + 1) : s.lets.2.toks.length ≤ n := by
 have := parts_less s.take 0 (BA (s.next.text.data.toList.drop ((letN s.next.text.data.toList).length + 1))) s.next.pos
 rw [take_less] at this
 unfold Pz.lets
 simp only
 omega
end Go.Proofs.YtojjfdobilkknaaGreatDoor

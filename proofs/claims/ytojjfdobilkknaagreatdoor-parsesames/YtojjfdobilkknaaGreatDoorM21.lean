/- Rows that a reader appends to: words, redirections, Lets.; The parser's rows: words, redirections.; Small readers: chars.Name, name, seesFunction, goesOn, lineEnd. -/
import Derived.Test.YtojjfdobilkknaaGreatDoorM20
import Derived.Maps.AppendAt
import Derived.Deep.AppendLies
import Derived.Deep.LoopGhost
set_option maxRecDepth 20000
set_option maxHeartbeats 2000000
namespace Go.Proofs.YtojjfdobilkknaaGreatDoor
open Go.RowKit
structure Kd (α : Type) where
 t : TypeId
 sz : Nat
 rel : World → (Nat → Prop) → α → List Value → Prop
 len : ∀ {w A x cs}, rel w A x cs → cs.length = sz
 one : ∀ {w A x cs}, rel w A x cs → ∀ u ∈ cs, u.oneCell' = true
 kept : ∀ {w w' : World} {A B : Nat → Prop} {x : α} {cs : List Value}, rel w A x cs → (∀ k, A k → w'.heap[k]? = w.heap[k]?) → (∀ k, A k → B k) → rel w' B x cs
theorem one_slice {w : World} {A : Nat → Prop} {v : Value} {l : Wd} (h : WAt w A v l) : v.oneCell' = true := by
 obtain ⟨ad, cap, hv, _⟩ := h.len
 rw [hv]
 rfl
def Kw : Kd Wd where
 t := 36
 sz := 1
 rel w A x cs := ∃ v, cs = [v] ∧ WAt w A v x
 len := by rintro w A x cs ⟨v, rfl, _⟩; rfl
 one := by
  rintro w A x cs ⟨v, rfl, h⟩ u hu
  simp at hu
  rw [hu]
  exact one_slice h
 kept := by rintro w w' A B x cs ⟨v, rfl, h⟩ h1 h2; exact ⟨v, rfl, h.kept h1 h2⟩
def Kr : Kd (Int × Int × Wd) where
 t := 38
 sz := 3
 rel w A x cs := ∃ v, cs = [.int .i64 x.1, .int .i64 x.2.1, v] ∧ WAt w A v x.2.2
 len := by rintro w A x cs ⟨v, rfl, _⟩; rfl
 one := by
  rintro w A x cs ⟨v, rfl, h⟩ u hu
  simp at hu
  rcases hu with rfl | rfl | rfl
  ·rfl
  ·rfl
  ·exact one_slice h
 kept := by rintro w w' A B x cs ⟨v, rfl, h⟩ h1 h2; exact ⟨v, rfl, h.kept h1 h2⟩
def Kl : Kd (List UInt8 × Wd) where
 t := 51
 sz := 2
 rel w A x cs := ∃ v, cs = [.string (BA x.1), v] ∧ WAt w A v x.2
 len := by rintro w A x cs ⟨v, rfl, _⟩; rfl
 one := by
  rintro w A x cs ⟨v, rfl, h⟩ u hu
  simp at hu
  rcases hu with rfl | rfl
  ·rfl
  ·exact one_slice h
 kept := by rintro w w' A B x cs ⟨v, rfl, h⟩ h1 h2; exact ⟨v, rfl, h.kept h1 h2⟩
def Grows {α : Type} (K : Kd α) (w : World) (base : Nat) (v : Value) (l : List α) : Prop := ∃ css : List (List Value), w.ownsRow base K.t K.sz v l.length css.flatten ∧ css.length = l.length ∧ ∀ (i : Nat) (x : α) (cs : List Value), l[i]? = some x → css[i]? = some cs → ∃ lo hi, base ≤ lo ∧ hi ≤ w.heap.size ∧ (∀ g, v.ownBlock = some g → g < lo ∨ hi ≤ g) ∧ K.rel w (fun k => lo ≤ k ∧ k < hi) x cs
theorem grows_nil {α : Type} (K : Kd α) (w : World) (base : Nat) : Grows K w base (.slice none 0 0) [] := ⟨[], World.ownsRow_nil _ _ _ _, rfl, fun i x cs h => by simp at h⟩
theorem Grows.fr {α : Type} {K : Kd α} {w w' : World} {base b : Nat} {v : Value} {l : List α} (h : Grows K w base v l) (hf : Fr w w' b) (hb : b < base) : Grows K w' base v l := by
 obtain ⟨css, h1, h2, h3⟩ := h
 refine ⟨css, own_grownS h1 hf (fun k hk e => by have := (h1.lt k hk).1; omega), h2, fun i x cs hi hc => ?_⟩
 obtain ⟨lo, hi', a1, a2, a3, a4⟩ := h3 i x cs hi hc
 exact ⟨lo, hi', a1, lee a2 hf.size, a3, K.kept a4 (fun k hk => hf.block k (by omega) (fun e => by omega)) (fun _ hk => hk)⟩
theorem Grows.add {α : Type} {K : Kd α} {w1 : World} {base lo : Nat} {v : Value} {l : List α} (h : Grows K w1 base v l) (hlo : base ≤ lo) (hl1 : lo ≤ w1.heap.size) (hv : ∀ g, v.ownBlock = some g → g < lo) {x : α} {cs : List Value} (hx : K.rel w1 (fun k => lo ≤ k ∧ k < w1.heap.size) x cs)
 (ts : TypeId) (i : TypeInfo) (z : Value) (bytes : Nat) (ht : Tryz.prog.underlying ts = some (.slice K.t)) (hi : Tryz.prog.info? K.t = some i) (hz : i.zero = some z) (hs : i.size = K.sz) (hby : i.bytes = bytes) (hzs : z.cells.size = K.sz) (hsz : 0 < K.sz) (hbs : bytes ≤ 1000) (hl : l.length ≤ 100000) :
 ∃ v' w3, (∀ ty, (Builtin.append_ #[ts, ts] ty #[v, .slice (some ⟨w1.heap.size, 0, none⟩) 1 1]).run Tryz.prog (w1.alloc (.cells cs.toArray K.t)) = .ok v' w3) ∧ Grows K w3 base v' (l ++ [x]) ∧ GrownS w1 w3 (fun k => base ≤ k) ∧ (∃ ad n cap, v' = .slice ad n cap) := by
 obtain ⟨css, h1, h2, h3⟩ := h
 have hcl := K.len hx
 have hB : (l.length + 1) * bytes ≤ 100001 * 1000 := Nat.mul_le_mul (by omega) hbs
 have hbw : base ≤ (w1.alloc (.cells cs.toArray K.t)).heap.size := by simp; omega
 obtain ⟨v', w3, hr, o1, o2, _, o4⟩ := run_append_own_at (P := Tryz.prog) (w1.alloc (.cells cs.toArray K.t)) base ts 0 K.t i z K.sz bytes ht hi hz hs hby hzs hsz v l.length css.flatten (h1.alloc _) ⟨w1.heap.size, 0, none⟩ 1 1 cs (by rw [hcl, Nat.one_mul]) (fun j u hj => by
  have hb2 := Blk.new w1 K.t cs.toArray
  have : ((⟨w1.heap.size, 0, none⟩ : Addr).add j) = ⟨w1.heap.size, j, none⟩ := by
   by_cases h0 : j = 0
   ·subst h0; simp [Addr.add]
   ·simp [Addr.add, h0]
  rw [this]
  exact hb2.cell j (by rw [List.getElem?_toArray]; exact hj)) (K.one hx) (lee (by omega) (show (100001 : Nat) ≤ maxLen by decide)) (by omega) hbw
 have hg3 : w1.heap.size + 1 ≤ w3.heap.size := by have := o2.size; simpa using this
 have hkeep : ∀ k, k < w1.heap.size → v.ownBlock ≠ some k → w3.heap[k]? = w1.heap[k]? := fun k hk hne => (o2.block k (by simp; omega) (fun e => hne e.symm)).trans (heap_alloc_old w1 _ hk)
 refine ⟨v', w3, fun _ => hr, ⟨css ++ [cs], ?_, by simp [h2], fun j y cy hj hc => ?_⟩, ?_, ?_⟩
 ·rw [List.flatten_append, List.flatten_singleton, List.length_append]
  exact o1
 ·have hvb : ∀ g, v'.ownBlock = some g → v.ownBlock = some g ∨ w1.heap.size ≤ g := fun g hg => by
   rcases o4 with o4 | o4
   ·exact .inl (o4 ▸ hg)
   ·rw [o4] at hg
    have := Option.some.inj hg
    right
    simp at this
    omega
  by_cases hjl : j < l.length
  ·rw [List.getElem?_append_left hjl] at hj
   rw [List.getElem?_append_left (by omega)] at hc
   obtain ⟨lo', hi', a1, a2, a3, a4⟩ := h3 j y cy hj hc
   refine ⟨lo', hi', a1, by omega, fun g hg => ?_, K.kept a4 (fun k hk => hkeep k (by omega) (fun e => by have := a3 k e; omega)) (fun _ hk => hk)⟩
   rcases hvb g hg with e | e
   ·exact a3 g e
   ·exact .inr (by omega)
  ·rw [List.getElem?_append_right (by omega)] at hj
   rw [List.getElem?_append_right (by omega)] at hc
   obtain ⟨hj0, hjx⟩ := List.getElem?_eq_some_iff.1 hj
   obtain ⟨hc0, hcx⟩ := List.getElem?_eq_some_iff.1 hc
   simp at hj0 hjx hc0 hcx
   subst hjx hcx
   refine ⟨lo, w1.heap.size, hlo, by omega, fun g hg => ?_, K.kept hx (fun k hk => hkeep k hk.2 (fun e => by have := hv k e; omega)) (fun _ hk => hk)⟩
   rcases hvb g hg with e | e
   ·exact .inl (hv g e)
   ·exact .inr e
 ·refine ⟨o2.os, o2.tape, o2.output, by omega, fun k hk hne => ?_⟩
  exact hkeep k hk (fun e => hne (h1.lt k e).1)
 ·rcases o1.2 with ⟨e, _⟩ | ⟨g, cap, cur, e, _⟩
  ·exact ⟨_, _, _, e⟩
  ·exact ⟨_, _, _, e⟩
theorem wpList_app_run {P : Program} {ops : Array Oper} {rest : List Oper} {o : Oper} {a : Act} {w W : World} {Q : Exit → Act → World → Prop} (hgd : o.guard = none) (s x : Operand) (t : TypeId)
 (ho : o.op = .call { callee := .builtin .append, args := #[s, x], argTypes := #[t, t] }) (u v r : Value) (hs : a.eval s = u) (hx : a.eval x = v) (hr : ∀ ty, (Builtin.append_ #[t, t] ty #[u, v]).run P w = .ok r W)
 (h : wpList P ops Q rest (a.put o.dst r) W) : wpList P ops Q (o :: rest) a w :=
 wpList_plain hgd fun _ hK => by
  unfold Oper.wp execOp
  simp only [ho, resolve, invoke, builtin, Sem.run_bind, Sem.run_pure, Result.andThen_ok, List.map_toArray, List.map_cons, List.map_nil, hs, hx, hr]
  exact hK _ _ h
structure Lp {α : Type} (K : Kd α) (w W : World) (b : Nat) (mp : Value) (s : Pz) (v : Value) (l : List α) : Prop where
 leg : Leg w.heap.size b w W
 pz : PzAt W b mp s
 env : PEnv W
 row : Grows K W w.heap.size v l
 old : 7 ≤ b
 lt : b < w.heap.size
theorem Lp.start {α : Type} (K : Kd α) {w : World} {b : Nat} {mp : Value} {s : Pz} (H : PzAt w b mp s) (he : PEnv w) (hb : 7 ≤ b) : Lp K w w b mp s (.slice none 0 0) [] :=
 ⟨leg_below (Below.refl _ _), H, he, grows_nil K w _, hb, H.lt⟩
theorem Lp.below {α : Type} {K : Kd α} {w W W' : World} {b : Nat} {mp : Value} {s : Pz} {v : Value} {l : List α} (h : Lp K w W b mp s v l) (hb : Below W.heap.size W W') : Lp K w W' b mp s v l :=
 ⟨h.leg.trans (leg_below hb), h.pz.below hb, h.env.below hb, h.row.fr (fr_below hb) h.lt, h.old, h.lt⟩
theorem pinfo {t : TypeId} {z : Option Value} {a c : Nat} (h : (Tryz.prog.info? t).map (fun i => (i.zero, i.size, i.bytes)) = some (z, a, c)) : ∃ i, Tryz.prog.info? t = some i ∧ i.zero = z ∧ i.size = a ∧ i.bytes = c := by
 cases hi : Tryz.prog.info? t with
 | none => rw [hi] at h; cases h
 | some i =>
   rw [hi] at h
   simp at h
   exact ⟨i, rfl, h.1, h.2.1, h.2.2⟩
theorem Lp.add {α : Type} {K : Kd α} {w W W1 : World} {b : Nat} {mp : Value} {s s1 : Pz} {v : Value} {l : List α} (h : Lp K w W b mp s v l) (hp : PzAt W1 b mp s1) (hf : Fr W W1 b) {x : α} {cs : List Value} (hx : K.rel W1 (New W W1) x cs) (ts : TypeId) {z : Value} {bytes : Nat} (ht : Tryz.prog.underlying ts = some (.slice K.t)) (hi : (Tryz.prog.info? K.t).map (fun i => (i.zero, i.size, i.bytes)) = some (some z, K.sz, bytes)) (hzs : z.cells.size = K.sz) (hsz : 0 < K.sz) (hbs : bytes ≤ 1000) (hl : l.length ≤ 100000) :
 ∃ ad n cap w3, (∀ ty, (Builtin.append_ #[ts, ts] ty #[v, .slice (some ⟨W1.heap.size, 0, none⟩) 1 1]).run Tryz.prog (W1.alloc (.cells cs.toArray K.t)) = .ok (.slice ad n cap) w3) ∧ Lp K w w3 b mp s1 (.slice ad n cap) (l ++ [x]) := by
 obtain ⟨i, hi1, hi2, hi3, hi4⟩ := pinfo hi
 have hsW : w.heap.size ≤ W.heap.size := h.leg.size
 obtain ⟨v', w3, h1, h2, h3, ad, n, cap, hv⟩ := (h.row.fr hf h.lt).add (lo := W.heap.size) hsW hf.size (fun g hg => by
  obtain ⟨css, o1, _⟩ := h.row
  exact (o1.lt g hg).2) hx ts i z bytes ht hi1 hi2 hi3 hi4 hzs hsz hbs hl
 subst hv
 exact ⟨ad, n, cap, w3, h1, (h.leg.trans (leg_fr hf)).trans (GrownS.mono h3 (fun _ _ e => .inr e)), hp.grownS h3 (fun k e => lle h.lt e), (h.env.fr hf h.old).grown h3 (fun k e => by have := h.lt; have := h.old; omega), h2, h.old, h.lt⟩
def RowAt {α : Type} (K : Kd α) (w : World) (A : Nat → Prop) (v : Value) (l : List α) : Prop := ∃ ad cap, v = .slice ad l.length cap ∧ (l = [] ∨ ∃ g cur, ad = some ⟨g, 0, none⟩ ∧ A g ∧ Blk w g K.t cur ∧ ∀ (i : Nat) (x : α), l[i]? = some x → ∃ cs, K.rel w A x cs ∧ ∀ (j : Nat) (u : Value), cs[j]? = some u → cur[i * K.sz + j]? = some u)
theorem flat_get {sz : Nat} : ∀ {css : List (List Value)} {i j : Nat} {cs : List Value} {u : Value}, (∀ c ∈ css, c.length = sz) → css[i]? = some cs → cs[j]? = some u → css.flatten[i * sz + j]? = some u
 | c :: r, 0, j, cs, u, hl, hi, hj => by
   simp at hi
   subst hi
   have h1 := hl c (by simp)
   have h2 := (List.getElem?_eq_some_iff.1 hj).1
   rw [List.flatten_cons, Nat.zero_mul, Nat.zero_add, List.getElem?_append_left h2]
   exact hj
 | c :: r, i + 1, j, cs, u, hl, hi, hj => by
   have h1 := hl c (by simp)
   rw [List.flatten_cons, List.getElem?_append_right (by rw [h1, Nat.add_mul]; omega), show (i + 1) * sz + j - c.length = i * sz + j by rw [h1, Nat.add_mul]; omega]
   exact flat_get (fun x hx => hl x (by simp [hx])) (by simpa using hi) hj
theorem Grows.done {α : Type} {K : Kd α} {W : World} {base : Nat} {v : Value} {l : List α} (h : Grows K W base v l) : RowAt K W (fun k => base ≤ k ∧ k < W.heap.size) v l := by
 obtain ⟨css, o, h2, h3⟩ := h
 have hall : ∀ c ∈ css, c.length = K.sz := fun c hc => by
  obtain ⟨i, hi⟩ := List.getElem?_of_mem hc
  have hil := (List.getElem?_eq_some_iff.1 hi).1
  obtain ⟨_, _, _, _, _, a4⟩ := h3 i _ c (List.getElem?_eq_getElem (by omega)) hi
  exact K.len a4
 obtain ⟨o0, ⟨e1, e2⟩ | ⟨g, cap, cur, e1, hbg, hg, hnc, _, hcs, htk⟩⟩ := o
 ·exact ⟨none, 0, by rw [e1, e2], .inl (List.eq_nil_of_length_eq_zero e2)⟩
 ·refine ⟨_, cap, e1, .inr ⟨g, cur, rfl, ⟨hbg, (Array.getElem?_eq_some_iff.1 hg).1⟩, hg, fun i x hx => ?_⟩⟩
  have hil := (List.getElem?_eq_some_iff.1 hx).1
  obtain ⟨cs, hc⟩ : ∃ cs, css[i]? = some cs := ⟨_, List.getElem?_eq_getElem (by omega)⟩
  obtain ⟨lo, hi, a1, a2, _, a4⟩ := h3 i x cs hx hc
  refine ⟨cs, K.kept a4 (fun _ _ => rfl) (fun k hk => ⟨by omega, by omega⟩), fun j u hu => ?_⟩
  have hju := (List.getElem?_eq_some_iff.1 hu).1
  have h7 := flat_get hall hc hu
  rw [← htk, List.getElem?_take] at h7
  split at h7
  ·simpa using h7
  ·cases h7
theorem word_less {s : Pz} {n : Nat} (h : s.toks.length ≤ n + 1) : s.word.2.toks.length ≤ n := by
 have hf : ∀ (s : Pz) (e p : Int), (s.fail e p).toks.length ≤ s.toks.length := fun s e p => by
  unfold Pz.fail
  split
  ·exact Nat.zero_le _
  ·exact ler _
 have hm : s.misfit.toks.length ≤ s.toks.length := by
  unfold Pz.misfit
  split
  ·exact hf _ _ _
  ·split
   ·exact hf _ _ _
   ·exact hf _ _ _
 have ht : ∀ s : Pz, s.take.toks.length ≤ s.toks.length - 1 := fun s => by unfold Pz.take; simp
 have hp : ∀ (s : Pz) (k : Nat) (t : ByteArray) (p : Int), (s.parts k t p).2.toks.length ≤ s.toks.length := fun s k t p => by
  unfold Pz.parts
  simp only
  split
  ·exact ler _
  ·exact hf _ _ _
 have hw : s.wantWord.2.toks.length ≤ s.toks.length - 1 := by
  unfold Pz.wantWord
  simp only
  split
  ·exact ht _
  ·exact lee (ht _) (by omega)
 have := hp s.wantWord.2 0 s.wantWord.1.text s.wantWord.1.pos
 unfold Pz.word
 simp only
 omega
theorem seesWord_none {s : Pz} (h : s.toks = []) : s.seesWord = false := by
 unfold Pz.seesWord Pz.next
 rw [h]
 rfl
theorem pwords_any (w : World) (b : Nat) (mp : Value) (s : Pz) (H : PzAt w b mp s) (he : PEnv w) (hb : 7 ≤ b) : Calls Tryz.prog 59 #[.pointer (some ⟨b, 0, none⟩)] w fun e w' => ∃ v, e = .returned v ∧ RowAt Kw w' (New w w') v s.words.1 ∧ PzAt w' b mp s.words.2 ∧ Fr w w' b := by
 have HL := hide (Lp.start Kw H he hb)
 have hfew := H.ok.few
 obtain ⟨R, hR⟩ : ∃ R, R = s.words := ⟨_, rfl⟩
 rw [← hR]
 have HR : Hid (R = Pz.wordsN s.toks.length s) := hide hR
 clear H he hR
 go_enter Tryz.func59, Tryz.ntmps59
 go_wp2_with fail
 go_loopg [3] s.toks.length (fun g x wr => ∃ (s' : Pz) (l : List Wd) (ad : Option Addr) (n cap : Nat), x = .slice ad n cap ∧ s'.toks.length ≤ g ∧ l.length + g ≤ 100000 ∧ Hid (R = (l ++ (Pz.wordsN g s').1, (Pz.wordsN g s').2) ∧ Lp Kw w wr b mp s' (.slice ad n cap) l))
 case atStart => exact ⟨s, [], none, 0, 0, rfl, ler _, by simpa using hfew, hide ⟨by rw [uh HR]; rfl, uh HL⟩⟩
 case round =>
  obtain ⟨s', l, ad, n, cap, rfl, hg, hlg, HI⟩ := hrel
  have HSW := hide (pseesWord_any wr b mp s' (uh HI).2.pz)
  cases hs : s'.seesWord with
  | false =>
    rw [hs] at HSW
    have HE : Hid (R = (l, s')) := hide (by
     rw [(uh HI).1]
     cases gk with
     | zero => rw [Pz.wordsN, List.append_nil]
     | succ m => rw [Pz.wordsN, hs]; simp)
    clear hs
    go_wp2_with fail
    refine (uh HSW).mono ?_
    rintro e w2 ⟨rfl, b2⟩
    have hL := (uh HI).2.below b2
    have HF : Hid (RowAt Kw w2 (New w w2) (.slice ad n cap) R.1 ∧ PzAt w2 b mp R.2 ∧ Fr w w2 b) := hide (by
     rw [uh HE]
     exact ⟨hL.row.done, hL.pz, hL.leg.fr⟩)
    clear b2 hL
    go_wp2
    go_ret
    exact ⟨_, rfl, uh HF⟩
  | true =>
    rw [hs] at HSW
    cases gk with
    | zero =>
      rw [seesWord_none (List.eq_nil_of_length_eq_zero (by omega))] at hs
      cases hs
    | succ m =>
      have HE : Hid (R = ((l ++ [s'.word.1]) ++ (Pz.wordsN m s'.word.2).1, (Pz.wordsN m s'.word.2).2)) := hide (by
       rw [(uh HI).1, Pz.wordsN, hs]
       simp)
      have HLS := hide (word_less hg)
      clear hs
      go_wp2_with fail
      refine (uh HSW).mono ?_
      rintro e w2 ⟨rfl, b2⟩
      have HL2 := hide ((uh HI).2.below b2)
      clear b2
      go_wp2_with fail
      refine (pword_any w2 b mp s' (uh HL2).pz (uh HL2).env.we hb).mono ?_
      rintro e w3 ⟨v3, rfl, hw, p3, f3⟩
      obtain ⟨ad3, cap3, hv, _⟩ := hw.len
      obtain ⟨ad4, n4, cap4, w4, hr, hL4⟩ := (uh HL2).add p3 f3 (x := s'.word.1) (cs := [v3]) ⟨v3, rfl, hw⟩ 29 (z := .slice none 0 0) (bytes := 24) (by kernel_rfl) (by kernel_rfl) (by kernel_rfl) (by decide) (by decide) (by omega)
      subst hv
      have HRN := hide hr
      have HL4 := hide hL4
      clear hw p3 f3 hr hL4
      go_wp2_with (at_builtin; refine wpList_app_run rfl _ _ _ rfl _ _ _ rfl rfl (uh HRN) ?_)
      go_roundg m
      case measure => omega
      case rel => exact ⟨s'.word.2, l ++ [s'.word.1], ad4, n4, cap4, rfl, uh HLS, by simp; omega, hide ⟨uh HE, uh HL4⟩⟩
theorem fail_less (s : Pz) (e p : Int) : (s.fail e p).toks.length ≤ s.toks.length := by
 unfold Pz.fail
 split
 ·exact Nat.zero_le _
 ·exact ler _
theorem take_less (s : Pz) : s.take.toks.length = s.toks.length - 1 := by unfold Pz.take; simp
theorem misfit_less (s : Pz) : s.misfit.toks.length ≤ s.toks.length := by
 unfold Pz.misfit
 split
 ·exact fail_less _ _ _
 ·split
  ·exact fail_less _ _ _
  ·exact fail_less _ _ _
theorem parts_less (s : Pz) (k : Nat) (t : ByteArray) (p : Int) : (s.parts k t p).2.toks.length ≤ s.toks.length := by
 unfold Pz.parts
 simp only
 split
 ·exact ler _
 ·exact fail_less _ _ _
theorem wantWord_less (s : Pz) : s.wantWord.2.toks.length ≤ s.toks.length - 1 := by
 unfold Pz.wantWord
 simp only
 rw [take_less]
 split
 ·exact ler _
 ·have := misfit_less s
  omega
theorem inPlace_less (s : Pz) (o : Tok) : (s.inPlace o).2.toks.length ≤ s.toks.length := by
 have h1 := wantWord_less s
 unfold Pz.inPlace
 simp only
 split
 ·show s.wantWord.2.toks.length ≤ _
  omega
 ·have := parts_less s.wantWord.2 5 o.body o.pos
  omega
theorem wordS_less (s : Pz) : s.word.2.toks.length ≤ s.toks.length := by
 have h1 := wantWord_less s
 have h2 := parts_less s.wantWord.2 0 s.wantWord.1.text s.wantWord.1.pos
 unfold Pz.word
 simp only
 omega
theorem number_less (s : Pz) : s.number.2.toks.length ≤ s.toks.length := by
 unfold Pz.number
 simp only
 split
 ·rw [take_less]; omega
 ·have := fail_less s.take (numN s.next.text.data.toList).2 s.next.pos
  rw [take_less] at this
  omega
theorem redir_less {s : Pz} {n : Nat} (h : s.toks.length ≤ n + 1) : s.redir.2.toks.length ≤ n := by
 have hk : ∀ s1 : Pz, s1.toks.length ≤ n + 1 → (if (redirOf s1.next.text).2 = 6 then s1.take.inPlace s1.next else s1.take.word).2.toks.length ≤ n := fun s1 h1 => by
  split
  ·have := inPlace_less s1.take s1.next
   rw [take_less] at this
   omega
  ·have := wordS_less s1.take
   rw [take_less] at this
   omega
 unfold Pz.redir
 simp only
 split
 ·have := number_less s
  exact hk s.number.2 (by omega)
 ·exact hk s h
theorem seesRedir_none {s : Pz} (h : s.toks = []) : s.seesRedir = false := by
 unfold Pz.seesRedir Pz.sees Pz.next
 rw [h]
 decide
theorem predirs_any (w : World) (b : Nat) (mp : Value) (s : Pz) (H : PzAt w b mp s) (he : PEnv w) (hb : 7 ≤ b) : Calls Tryz.prog 122 #[.pointer (some ⟨b, 0, none⟩)] w fun e w' => ∃ v, e = .returned v ∧ RowAt Kr w' (New w w') v s.redirs.1 ∧ PzAt w' b mp s.redirs.2 ∧ Fr w w' b := by
 have HL := hide (Lp.start Kr H he hb)
 have hfew := H.ok.few
 obtain ⟨R, hR⟩ : ∃ R, R = s.redirs := ⟨_, rfl⟩
 rw [← hR]
 have HR : Hid (R = Pz.redirsN s.toks.length s) := hide hR
 clear H he hR
 go_enter Tryz.func122, Tryz.ntmps122
 go_wp2_with fail
 go_loopg [3] s.toks.length (fun g x wr => ∃ (s' : Pz) (l : List (Int × Int × Wd)) (ad : Option Addr) (n cap : Nat), x = .slice ad n cap ∧ s'.toks.length ≤ g ∧ l.length + g ≤ 100000 ∧ Hid (R = (l ++ (Pz.redirsN g s').1, (Pz.redirsN g s').2) ∧ Lp Kr w wr b mp s' (.slice ad n cap) l))
 case atStart => exact ⟨s, [], none, 0, 0, rfl, ler _, by simpa using hfew, hide ⟨by rw [uh HR]; rfl, uh HL⟩⟩
 case round =>
  obtain ⟨s', l, ad, n, cap, rfl, hg, hlg, HI⟩ := hrel
  have HSW := hide (pseesRedir_any wr b mp s' (uh HI).2.pz (uh HI).2.env)
  cases hs : s'.seesRedir with
  | false =>
    rw [hs] at HSW
    have HE : Hid (R = (l, s')) := hide (by
     rw [(uh HI).1]
     cases gk with
     | zero => rw [Pz.redirsN, List.append_nil]
     | succ m => rw [Pz.redirsN, hs]; simp)
    clear hs
    go_wp2_with fail
    refine (uh HSW).mono ?_
    rintro e w2 ⟨rfl, b2⟩
    have hL := (uh HI).2.below b2
    have HF : Hid (RowAt Kr w2 (New w w2) (.slice ad n cap) R.1 ∧ PzAt w2 b mp R.2 ∧ Fr w w2 b) := hide (by
     rw [uh HE]
     exact ⟨hL.row.done, hL.pz, hL.leg.fr⟩)
    clear b2 hL
    go_wp2
    go_ret
    exact ⟨_, rfl, uh HF⟩
  | true =>
    rw [hs] at HSW
    cases gk with
    | zero =>
      rw [seesRedir_none (List.eq_nil_of_length_eq_zero (by omega))] at hs
      cases hs
    | succ m =>
      have HE : Hid (R = ((l ++ [s'.redir.1]) ++ (Pz.redirsN m s'.redir.2).1, (Pz.redirsN m s'.redir.2).2)) := hide (by
       rw [(uh HI).1, Pz.redirsN, hs]
       simp)
      have HLS := hide (redir_less hg)
      clear hs
      go_wp2_with fail
      refine (uh HSW).mono ?_
      rintro e w2 ⟨rfl, b2⟩
      have HL2 := hide ((uh HI).2.below b2)
      clear b2
      go_wp2_with fail
      refine (predir_any w2 b mp s' (uh HL2).pz (uh HL2).env hb).mono ?_
      rintro e w3 ⟨v3, rfl, hw, p3, f3⟩
      obtain ⟨ad3, cap3, hv, _⟩ := hw.len
      obtain ⟨ad4, n4, cap4, w4, hr, hL4⟩ := (uh HL2).add p3 f3 (x := s'.redir.1) (cs := [.int .i64 s'.redir.1.1, .int .i64 s'.redir.1.2.1, v3]) ⟨v3, rfl, hw⟩ 30 (z := .agg #[.int .i64 0, .int .i64 0, .slice none 0 0]) (bytes := 40) (by kernel_rfl) (by kernel_rfl) (by kernel_rfl) (by decide) (by decide) (by omega)
      subst hv
      have HRN := hide hr
      have HL4 := hide hL4
      clear hw p3 f3 hr hL4
      go_wp2_with (at_builtin; refine wpList_app_run rfl _ _ _ rfl _ _ _ rfl rfl (uh HRN) ?_)
      go_roundg m
      case measure => omega
      case rel => exact ⟨s'.redir.2, l ++ [s'.redir.1], ad4, n4, cap4, rfl, uh HLS, by simp; omega, hide ⟨uh HE, uh HL4⟩⟩
theorem cname_any (s : ByteArray) (w : World) (hs : s.size ≤ 100000) : Calls Tryz.prog 76 #[.string s] w fun e w' => e = .returned (.bool (isName s.data.toList)) ∧ w' = w := by
 have HF := hide (front_any s w hs)
 by_cases h0 : s.size = 0
 ·have he := empty_of h0
  rw [show isName s.data.toList = false by unfold isName; rw [data_len, h0]; rfl]
  go_enter Tryz.func76, Tryz.ntmps76
  go_wp2
  go_ret
  exact ⟨rfl, rfl⟩
 ·have he := nonempty_of (show 0 < s.size by omega)
  have HV : Hid (((frontN s.data.toList : Int) == (s.size : Int)) = isName s.data.toList) := hide (by
   unfold isName
   rw [data_len, decide_eq_true (show 0 < s.size by omega), Bool.true_and, Bool.eq_iff_iff]
   simp
   omega)
  go_enter Tryz.func76, Tryz.ntmps76
  go_wp2_with fail
  refine (uh HF).mono ?_
  rintro e w1 ⟨rfl, hw1⟩
  rw [show w1 = w from hw1]
  clear hw1
  go_wp2
  go_ret
  exact ⟨ret_bool (uh HV), rfl⟩
theorem pname_any (w : World) (b : Nat) (mp : Value) (s : Pz) (H : PzAt w b mp s) : Calls Tryz.prog 58 #[.pointer (some ⟨b, 0, none⟩)] w fun e w' => e = .returned (.string (BA s.name.1)) ∧ PzAt w' b mp s.name.2 ∧ Fr w w' b := by
 have HN := hide (pnext_any w b mp s H)
 unfold Tok.cells at HN
 have HF1 := hide (fld_tok1 s.next)
 have HCN := hide (fun W => cname_any s.next.text W H.ok.next.1)
 have HH := hide H
 clear H
 cases hn : isName s.next.text.data.toList with
 | true =>
   rw [show s.name = (s.next.text.data.toList, s.take) by unfold Pz.name; rw [hn]; rfl, BA_of]
   rw [hn] at HCN
   clear hn
   go_enter Tryz.func58, Tryz.ntmps58
   go_wp2_with fail
   refine (uh HN).mono ?_
   rintro e w1 ⟨rfl, b1⟩
   have HB1 := hide b1
   have hf := uh HF1 w1
   clear b1
   go_wp2_with fail
   refine (uh HCN w1).mono ?_
   rintro e w2 ⟨rfl, hw2⟩
   rw [show w2 = w1 from hw2]
   clear hw2 hf
   go_wp2_with fail
   refine (ptake_any w1 b mp s ((uh HH).below (uh HB1))).mono ?_
   rintro e w3 ⟨rfl, p3, f3⟩
   have HR := hide (And.intro p3 ((fr_below (b := b) (uh HB1)).trans' f3))
   have hf := uh HF1 w3
   unfold Tok.cells
   clear p3 f3
   go_wp2
   go_ret
   exact ⟨rfl, uh HR⟩
 | false =>
   rw [show s.name = (s.misfit.next.text.data.toList, s.misfit.take) by unfold Pz.name; rw [hn]; rfl, BA_of]
   rw [hn] at HCN
   have HF2 := hide (fld_tok1 s.misfit.next)
   clear hn
   go_enter Tryz.func58, Tryz.ntmps58
   go_wp2_with fail
   refine (uh HN).mono ?_
   rintro e w1 ⟨rfl, b1⟩
   have HB1 := hide b1
   have hf := uh HF1 w1
   clear b1
   go_wp2_with fail
   refine (uh HCN w1).mono ?_
   rintro e w2 ⟨rfl, hw2⟩
   rw [show w2 = w1 from hw2]
   clear hw2 hf
   go_wp2_with fail
   refine (pmisfit_any w1 b mp s ((uh HH).below (uh HB1))).mono ?_
   rintro e w3 ⟨rfl, p3, f3⟩
   have HP3 := hide p3
   have HF3 := hide ((fr_below (b := b) (uh HB1)).trans' f3)
   clear p3 f3
   go_wp2_with fail
   refine (ptake_any w3 b mp s.misfit (uh HP3)).mono ?_
   rintro e w4 ⟨rfl, p4, f4⟩
   have HR := hide (And.intro p4 ((uh HF3).trans' f4))
   have hf := uh HF2 w4
   unfold Tok.cells
   clear p4 f4
   go_wp2
   go_ret
   exact ⟨rfl, uh HR⟩
theorem plineEnd_any (w : World) (b : Nat) (mp : Value) (s : Pz) (H : PzAt w b mp s) : Calls Tryz.prog 14 #[.pointer (some ⟨b, 0, none⟩)] w fun e w' => e = .returned (.tuple #[]) ∧ PzAt w' b mp s.lineEnd ∧ Fr w w' b := by
 have HM := hide (pmore_any w b mp s H)
 have HW := hide (pwant_any w b mp s Pz.nl H)
 have HF := hide (pfail_any w b mp s s.be s.bp H)
 obtain ⟨_, v, k1, _⟩ := H
 have q4 : w.cell? ⟨b, 4, none⟩ = some (.int .i64 s.be) := k1.cell 4 rfl
 have q5 : w.cell? ⟨b, 5, none⟩ = some (.int .i64 s.bp) := k1.cell 5 rfl
 clear k1
 cases hm : s.more with
 | true =>
   rw [show s.lineEnd = s.want Pz.nl by unfold Pz.lineEnd; rw [hm]; rfl]
   rw [hm] at HM
   clear hm
   go_enter Tryz.func14, Tryz.ntmps14
   go_wp2_with fail
   refine (uh HM).mono ?_
   rintro e w1 ⟨rfl, hw1⟩
   rw [show w1 = w from hw1]
   clear hw1
   go_wp2_with fail
   refine (uh HW).mono ?_
   rintro e w2 ⟨rfl, r2⟩
   have HR := hide r2
   clear r2
   go_wp2
   refine bodyPost_ret (res0 rfl _ _) rfl ⟨rfl, uh HR⟩
 | false =>
   rw [show s.lineEnd = s.fail s.be s.bp by unfold Pz.lineEnd; rw [hm]; rfl]
   rw [hm] at HM
   clear hm
   go_enter Tryz.func14, Tryz.ntmps14
   go_wp2_with fail
   refine (uh HM).mono ?_
   rintro e w1 ⟨rfl, hw1⟩
   rw [show w1 = w from hw1]
   clear hw1
   go_wp2_with fail
   refine (uh HF).mono ?_
   rintro e w2 ⟨rfl, r2⟩
   have HR := hide r2
   clear r2
   go_wp2
   refine bodyPost_end (res0 rfl _ _) rfl ⟨rfl, uh HR⟩
theorem pgoesOn_any (w : World) (b : Nat) (mp : Value) (s : Pz) (H : PzAt w b mp s) : Calls Tryz.prog 75 #[.pointer (some ⟨b, 0, none⟩)] w fun e w' => e = .returned (.bool s.goesOn) ∧ Below w.heap.size w w' := by
 have HM := hide (pmore_any w b mp s H)
 obtain ⟨W1, hW1⟩ : ∃ W1, W1 = w.alloc (.cells (stops.map Value.string).toArray 9) := ⟨_, rfl⟩
 have hb1 : Below w.heap.size w W1 := by rw [hW1]; exact (Below.refl _ _).alloc (ler _) _
 have HS : Hid (Calls Tryz.prog 41 #[.pointer (some ⟨b, 0, none⟩), .slice (some ⟨w.heap.size, 0, none⟩) 10 10] W1 fun e w' => e = .returned (.bool (s.sees stops)) ∧ Below w.heap.size w w') := hide (by
  have hr : SRow W1 (.slice (some ⟨w.heap.size, 0, none⟩) 10 10) stops := by rw [hW1]; exact srow_new w stops
  refine (psees_any W1 b mp _ s stops (H.below hb1) hr (by decide)).mono ?_
  rintro e w' ⟨h1, h2⟩
  exact ⟨h1, hb1.trans (h2.mono hb1.size)⟩)
 have HW1 : Hid (w.alloc (.cells #[.string ⟨#[116, 104, 101, 110]⟩, .string ⟨#[101, 108, 115, 101]⟩, .string ⟨#[101, 108, 105, 102]⟩, .string ⟨#[102, 105]⟩, .string ⟨#[100, 111]⟩, .string ⟨#[100, 111, 110, 101]⟩, .string ⟨#[101, 115, 97, 99]⟩, .string ⟨#[125]⟩, .string ⟨#[41]⟩, .string ⟨#[59, 59]⟩] 9) = W1) := hide (by rw [hW1]; rfl)
 clear hW1 hb1 H
 cases hm : s.more with
 | false =>
   rw [show s.goesOn = false by unfold Pz.goesOn; rw [hm]; rfl]
   rw [hm] at HM
   clear hm
   go_enter Tryz.func75, Tryz.ntmps75
   go_wp2_with fail
   refine (uh HM).mono ?_
   rintro e w1 ⟨rfl, hw1⟩
   rw [show w1 = w from hw1]
   clear hw1
   go_wp2
   go_ret
   exact ⟨rfl, Below.refl _ _⟩
 | true =>
   rw [show s.goesOn = !s.sees stops by unfold Pz.goesOn; rw [hm]; rfl]
   rw [hm] at HM
   clear hm
   go_enter Tryz.func75, Tryz.ntmps75
   go_wp2_with fail
   refine (uh HM).mono ?_
   rintro e w1 ⟨rfl, hw1⟩
   rw [show w1 = w from hw1]
   clear hw1
   go_wp2_with fail
   rw [uh HW1]
   refine (uh HS).mono ?_
   rintro e w2 ⟨rfl, b2⟩
   have HB := hide b2
   clear b2
   go_wp2
   go_ret
   exact ⟨rfl, uh HB⟩
end Go.Proofs.YtojjfdobilkknaaGreatDoor

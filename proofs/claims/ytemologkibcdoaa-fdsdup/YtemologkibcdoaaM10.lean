/-
  block: a part gets a block; what a write to a block makes of a node.
  put; Write.
-/
import Derived.Test.YtemologkibcdoaaM09

/- block: a part gets a block; what a write to a block makes of a node. -/
namespace Go.Proofs.Ytemologkibcdoaa
open Go.RowKit Go.Maps

theorem freeAt_pos {l : BL} : freeAt l < l.length ↔ 0 < freeN l := by
  unfold freeAt freeN
  rw [List.findIdx_lt_length, List.countP_pos_iff]
/-- A part has a block. -/
def xput (x : Nd) (k : Nat) : Nd := { x with has := fun j => if j = k then true else x.has j }
theorem xput_same {x : Nd} {k : Nat} (h : x.has k = true) : xput x k = x := by
  unfold xput
  cases x with
  | mk kind names users size byt has =>
    congr 1
    funext j
    dsimp only at h ⊢
    split
    · rename_i e; rw [e, h]
    · rfl
theorem TL.took {w w' : World} {p : Nat} {L : Lay} {T : TB} (H : TL w p L T) {i : Nat} {x : Nd} (hi : T[i]? = some (some x)) {kk f : Nat} (hk : L.pf i kk = none) (hk64 : kk < 64) (hf : f < L.l.length) (hfe : L.l[f]? = some []) (hg : GrownS w w' (fun k => k = L.m i ∨ k = L.hs))
    (hst : BAt w' L.s L.gs L.hs (L.l.set f z64)) (hn : NAt w' (L.q i) (L.m i) (xput x kk) (pput (L.pf i) kk f)) :
    TL w' p { L with pf := updF L.pf i (pput (L.pf i) kk f), l := L.l.set f z64 } (T.set i (some (xput x kk))) := by
  have ho : ∀ j c, pput (L.pf i) kk f j = some c → (j = kk ∧ c = f) ∨ (j ≠ kk ∧ L.pf i j = some c ∧ c ≠ f) := fun j c hj => by
    unfold pput at hj
    split at hj
    · rename_i e
      injection hj with hj
      exact .inl ⟨e, hj.symm⟩
    · rename_i hne
      refine .inr ⟨hne, hj, fun e => ?_⟩
      obtain ⟨y, hy, hyn⟩ := H.part i x hi j c hj
      rw [e, hfe] at hy
      injection hy with hy
      exact hyn hy.symm
  refine H.step hi hg (fun k _ e => by rcases e with e | e; exact .inr (.inl e); exact .inr (.inr (.inr e))) hst hn (fun k => ?_) (fun k c hc => ?_) (fun k k' c h1 h2 => ?_) (fun j z k c hj hz hc => ⟨fun k' h2 => ?_, ?_⟩) (fun j => ?_) ?_ (by simp)
  · rw [isS_put]
    show (if k = kk then true else x.has k) = if k = kk then true else isS (L.pf i) k
    rw [H.has i x hi k]
  · rcases ho k c hc with ⟨_, rfl⟩ | ⟨_, h2, h3⟩
    · exact ⟨z64, by rw [List.getElem?_set, if_pos rfl, if_pos hf], by simp [z64]⟩
    · rw [List.getElem?_set, if_neg (fun e => h3 e.symm)]
      exact H.part i x hi k c h2
  · rcases ho k c h1 with ⟨a1, a2⟩ | ⟨a1, a2, a3⟩ <;> rcases ho k' c h2 with ⟨b1, b2⟩ | ⟨b1, b2, b3⟩
    · rw [a1, b1]
    · exact absurd a2 b3
    · exact absurd b2 a3
    · exact (H.one i i x x hi hi k k' c a2 b2).2
  · rcases ho k' c h2 with ⟨_, b2⟩ | ⟨_, b2, _⟩
    · obtain ⟨y, hy, hyn⟩ := H.part j z hz k c hc
      rw [b2, hfe] at hy
      injection hy with hy
      exact hyn hy.symm
    · exact hj (H.one j i z x hz hi k k' c hc b2).1
  · rw [List.getElem?_set, if_neg]
    intro e
    obtain ⟨y, hy, hyn⟩ := H.part j z hz k c hc
    rw [← e, hfe] at hy
    injection hy with hy
    exact hyn hy.symm
  · show x.byt j = byteOf (L.l.set f z64) (pput (L.pf i) kk f) j
    rw [H.byte i x hi j]
    unfold byteOf
    by_cases e : j / 64 = kk
    · rw [show pput (L.pf i) kk f (j / 64) = some f from if_pos e, e, hk]
      show 0 = bAt (L.l.set f z64) f (j % 64)
      rw [bAt_set hf, if_pos rfl, z64_at]
    · rw [show pput (L.pf i) kk f (j / 64) = L.pf i (j / 64) from if_neg e]
      cases hc : L.pf i (j / 64) with
      | none => rfl
      | some c =>
        show bAt L.l c _ = bAt (L.l.set f z64) c _
        have hcf : c ≠ f := fun e2 => by
          obtain ⟨y, hy, hyn⟩ := H.part i x hi _ c hc
          rw [e2, hfe] at hy
          injection hy with hy
          exact hyn hy.symm
        rw [bAt_set hf, if_neg hcf]
  · have h1 := freeN_set hfe z64
    have h2 := cnt_upd x.has kk true hk64
    have h3 := H.has i x hi kk
    rw [show isS (L.pf i) kk = false by unfold isS; rw [hk]; rfl] at h3
    rw [h3] at h2
    rw [if_pos (by rfl), if_neg (by decide)] at h1
    rw [if_pos rfl, if_neg (by decide)] at h2
    show freeN (L.l.set f z64) + cnt (fun j => if j = kk then true else x.has j) = _
    omega
/-- A block of a node is written to. -/
def xwr (x : Nd) (o : Nat) (d : List UInt8) : Nd := { x with byt := fun j => if o ≤ j ∧ j < o + d.length then d.getD (j - o) 0 else x.byt j }
theorem putAt_get {y d : List UInt8} {k j : Nat} (hy : y.length = 64) (hk : k + d.length ≤ 64) : (putAt y k d).getD j 0 = if k ≤ j ∧ j < k + d.length then d.getD (j - k) 0 else y.getD j 0 := by
  unfold putAt
  rw [List.getD_eq_getElem?_getD, List.append_assoc, List.getElem?_append, List.getElem?_append, List.length_take, hy, Nat.min_eq_left (by omega)]
  by_cases h1 : j < k
  · rw [if_pos h1, if_neg (by omega), List.getElem?_take, if_pos h1, List.getD_eq_getElem?_getD]
  · rw [if_neg h1]
    by_cases h2 : j < k + d.length
    · rw [if_pos (by omega), if_pos (by omega), List.getD_eq_getElem?_getD]
    · rw [if_neg (by omega), if_neg (by omega), List.getElem?_drop, List.getD_eq_getElem?_getD, show k + d.length + (j - k - d.length) = j by omega]
theorem TL.wrote {w w' : World} {p : Nat} {L : Lay} {T : TB} (H : TL w p L T) {i : Nat} {x : Nd} (hi : T[i]? = some (some x)) {kk b fr : Nat} {y d : List UInt8} (hb : L.pf i kk = some b) (hy : L.l[b]? = some y) (hfd : fr + d.length ≤ 64) (hg : GrownS w w' (fun k => k = L.gs))
    (hst : BAt w' L.s L.gs L.hs (L.l.set b (putAt y fr d))) :
    TL w' p { L with pf := updF L.pf i (L.pf i), l := L.l.set b (putAt y fr d) } (T.set i (some (xwr x (64 * kk + fr) d))) := by
  obtain ⟨y', hy', hyn⟩ := H.part i x hi kk b hb
  obtain rfl : y = y' := by rw [hy] at hy'; injection hy'
  have hyl := H.store.wf.len hy hyn
  have hbl := (List.getElem?_eq_some_iff.1 hy).1
  have n1 := H.ne hi
  have hpl := put_len hyl hfd
  have hpn : putAt y fr d ≠ [] := fun e => by rw [e] at hpl; cases hpl
  refine H.step hi hg (fun k _ e => .inr (.inr (.inl e))) hst ⟨((H.node i x hi).grownS hg n1.1.2.2.2.1 n1.2.2.2.2.1).blk, ((H.node i x hi).grownS hg n1.1.2.2.2.1 n1.2.2.2.2.1).own⟩ (H.has i x hi) (fun k c hc => ?_) (fun k k' c h1 h2 => (H.one i i x x hi hi k k' c h1 h2).2) (fun j z k c hj hz hc => ⟨fun k' h2 => hj (H.one j i z x hz hi k k' c hc h2).1, ?_⟩) (fun j => ?_) ?_ (by simp)
  · by_cases e : c = b
    · subst e
      exact ⟨_, by rw [List.getElem?_set, if_pos rfl, if_pos hbl], hpn⟩
    · rw [List.getElem?_set, if_neg (fun e2 => e e2.symm)]
      exact H.part i x hi k c hc
  · rw [List.getElem?_set, if_neg]
    intro e
    subst e
    exact hj (H.one j i z x hz hi k kk b hc hb).1
  · show (if 64 * kk + fr ≤ j ∧ j < 64 * kk + fr + d.length then d.getD (j - (64 * kk + fr)) 0 else x.byt j) = byteOf (L.l.set b (putAt y fr d)) (L.pf i) j
    rw [H.byte i x hi j]
    unfold byteOf
    by_cases e : j / 64 = kk
    · rw [e, hb]
      show (if 64 * kk + fr ≤ j ∧ j < 64 * kk + fr + d.length then d.getD (j - (64 * kk + fr)) 0 else bAt L.l b (j % 64)) = bAt (L.l.set b (putAt y fr d)) b (j % 64)
      rw [bAt_set hbl, if_pos rfl, putAt_get hyl hfd, bAt_of hy]
      by_cases h1 : fr ≤ j % 64 ∧ j % 64 < fr + d.length
      · rw [if_pos h1, if_pos (by omega), show j - (64 * kk + fr) = j % 64 - fr by omega]
      · rw [if_neg h1, if_neg (by omega)]
    · rw [if_neg (by omega)]
      cases hc : L.pf i (j / 64) with
      | none => rfl
      | some c =>
        show bAt L.l c _ = bAt (L.l.set b (putAt y fr d)) c _
        have hcb : c ≠ b := fun e2 => e (by subst e2; exact (H.one i i x x hi hi _ kk c hc hb).2)
        rw [bAt_set hbl, if_neg hcb]
  · have h1 := freeN_set hy (putAt y fr d)
    rw [show y.isEmpty = false by cases y with | nil => exact absurd rfl hyn | cons _ _ => rfl, show (putAt y fr d).isEmpty = false by cases h : putAt y fr d with | nil => exact absurd h hpn | cons _ _ => rfl] at h1
    show freeN (L.l.set b (putAt y fr d)) + cnt x.has = _
    omega
/-- What block leaves. -/
def Blkd (w w' : World) (p : Nat) (L : Lay) (T : TB) (i : Nat) (x : Nd) (part : Nat) (B E : Int) : Prop :=
  (E = 0 ∧ ∃ (b : Nat) (pf : PF) (l : BL), B = (b : Int) + 1 ∧ pf part = some b ∧ TL w' p { L with pf := updF L.pf i pf, l := l } (T.set i (some (xput x part))) ∧ l.length = L.l.length ∧ GrownS w w' (fun k => k = L.m i ∨ k = L.hs)) ∨
  (E = 20 ∧ B = 0 ∧ x.has part = false ∧ freeN L.l = 0 ∧ TL w' p L T ∧ GrownS w w' (fun k => k = L.m i ∨ k = L.hs))
end Go.Proofs.Ytemologkibcdoaa

/- put; Write. -/
namespace Go.Proofs.Ytemologkibcdoaa
open Go.RowKit Go.Maps

/-- A node of which so many bytes are written; its size is not turned yet. -/
def putB (x : Nd) (a : Nat) (d : List UInt8) (done : Nat) : Nd := { x with byt := fun j => if a ≤ j ∧ j < a + done then d.getD (j - a) 0 else x.byt j, has := hasP x.has a done }
theorem putB_zero (x : Nd) (a : Nat) (d : List UInt8) : putB x a d 0 = x := by
  unfold putB
  cases x with
  | mk kind names users size byt has =>
    congr 1
    · funext j
      dsimp only
      rw [if_neg (by omega)]
    · exact hasP_zero _ _
theorem putB_next {x : Nd} {a done k : Nat} {d : List UInt8} (hk : 0 < k) (hd : done + k ≤ d.length) (hf : (a + done) % 64 + k ≤ 64) :
    xwr (xput (putB x a d done) ((a + done) / 64)) (64 * ((a + done) / 64) + (a + done) % 64) ((d.drop done).take k) = putB x a d (done + k) := by
  unfold xwr xput putB
  dsimp only
  have hl : ((d.drop done).take k).length = k := by simp; omega
  congr 1
  · funext j
    rw [hl, show 64 * ((a + done) / 64) + (a + done) % 64 = a + done by omega]
    by_cases h1 : a + done ≤ j ∧ j < a + done + k
    · rw [if_pos h1, if_pos (by omega), List.getD_eq_getElem?_getD, List.getElem?_take, if_pos (by omega), List.getElem?_drop, List.getD_eq_getElem?_getD, show done + (j - (a + done)) = j - a by omega]
    · rw [if_neg h1]
      by_cases h2 : a ≤ j ∧ j < a + done
      · rw [if_pos h2, if_pos (by omega)]
      · rw [if_neg h2, if_neg (by omega)]
  · funext j
    unfold hasP
    by_cases e : j = (a + done) / 64
    · rw [if_pos e, show (decide (0 < done + k) && decide (a / 64 ≤ j) && decide (64 * j < a + (done + k))) = true by simp; omega]
      simp
    · rw [if_neg e]
      congr 1
      by_cases h1 : a / 64 ≤ j
      · by_cases h2 : 64 * j < a + done
        · by_cases h3 : 0 < done
          · rw [show decide (0 < done) = true by simpa using h3, show decide (64 * j < a + done) = true by simpa using h2, show decide (0 < done + k) = true by simp; omega, show decide (64 * j < a + (done + k)) = true by simp; omega]
          · rw [show decide (0 < done) = false by simpa using h3, show decide (64 * j < a + (done + k)) = false by simp; omega]
            simp
        · rw [show decide (64 * j < a + done) = false by simpa using h2, show decide (64 * j < a + (done + k)) = false by simp; omega]
          simp
      · rw [show decide (a / 64 ≤ j) = false by simpa using h1]
        simp
structure PT (w wr : World) (p : Nat) (L : Lay) (T : TB) (i : Nat) (x : Nd) (a : Nat) (d : List UInt8) (done : Nat) (pf : PF) (l : BL) : Prop where
  tl : TL wr p { L with pf := updF L.pf i pf, l := l } (T.set i (some (putB x a d done)))
  len : l.length = L.l.length
  gr : GrownS w wr (fun k => k = L.m i ∨ k = L.gs ∨ k = L.hs)
  brk : done = 0 ∨ done = d.length ∨ (a + done) % 64 = 0
theorem PT.count {w wr : World} {p : Nat} {L : Lay} {T : TB} {i : Nat} {x : Nd} {a : Nat} {d : List UInt8} {done : Nat} {pf : PF} {l : BL} (G : PT w wr p L T i x a d done pf l) (H : TL w p L T) (hi : T[i]? = some (some x)) : freeN l + cnt (hasP x.has a done) = freeN L.l + cnt x.has := by
  have h1 := H.count
  have h2 := G.tl.count
  have h3 := usedT_set T i (some x) (some (putB x a d done)) hi
  have h4 := G.len
  simp only [usd] at h3
  have h5 : freeN l + usedT (T.set i (some (putB x a d done))) = l.length := h2
  have h6 : cnt (putB x a d done).has = cnt (hasP x.has a done) := rfl
  omega
/-- What put leaves. -/
def PutL (w w' : World) (p : Nat) (L : Lay) (T : TB) (i : Nat) (x : Nd) (a : Nat) (d : List UInt8) (done : Nat) : Prop :=
  ∃ pf l, PutSp x.has (freeN L.l) a d.length done ∧ TL w' p { L with pf := updF L.pf i pf, l := l } (T.set i (some (putB x a d done))) ∧ l.length = L.l.length ∧ GrownS w w' (fun k => k = L.m i ∨ k = L.gs ∨ k = L.hs)
theorem PT.stop {w wr w1 : World} {p : Nat} {L : Lay} {T : TB} {i : Nat} {x : Nd} {a : Nat} {d : List UInt8} {done : Nat} {pf : PF} {l : BL} (G : PT w wr p L T i x a d done pf l) (H : TL w p L T) (hi : T[i]? = some (some x)) (hlt : done < d.length) (hmx : a + d.length ≤ 4096)
    {B : Int} (hB : Blkd wr w1 p { L with pf := updF L.pf i pf, l := l } (T.set i (some (putB x a d done))) i (putB x a d done) ((a + done) / 64) B 20) : PutL w w1 p L T i x a d done := by
  rcases hB with ⟨h, _⟩ | ⟨_, _, h1, h2, h3, h4⟩
  · cases h
  · have hc := G.count H hi
    have h2 : freeN l = 0 := h2
    have h1 : hasP x.has a done ((a + done) / 64) = false := h1
    refine ⟨pf, l, ⟨by omega, by omega, by omega, .inr ⟨by omega, ?_, ?_⟩⟩, h3, G.len, G.gr.trans (h4.mono (fun k _ e => by rcases e with e | e; exact .inl e; exact .inr (.inr e)))⟩
    · unfold hasP at h1
      simp only [Bool.or_eq_false_iff] at h1
      exact h1.1
    · rcases G.brk with e | e | e
      · exact .inl e
      · omega
      · exact .inr e
end Go.Proofs.Ytemologkibcdoaa

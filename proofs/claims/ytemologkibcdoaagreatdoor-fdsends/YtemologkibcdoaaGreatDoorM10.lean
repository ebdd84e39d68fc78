/-
  block: a part gets a block; what a write to a block makes of a node.
  put; Write.
-/
import Derived.Test.YtemologkibcdoaaGreatDoorM09

/- block: a part gets a block; what a write to a block makes of a node. -/
namespace Go.Proofs.YtemologkibcdoaaGreatDoor
open Go.RowKit Go.Maps

theorem freeAt_pos {l : BL} : freeAt l < l.length ↔ 0 < freeN l := by
  unfold freeAt freeN
  rw [List.findIdx_lt_length, List.countP_pos_iff]
/-- A part has a block. -/
def xput (x : Nd) (k : Nat) : Nd := { x with has := fun j => if j = k then true else x.has j }
theorem xput_same {x : Nd} {k : Nat} (h : x.has k = true) : xput x k = x := by
  unfold xput
  cases x with
  | mk kind names users size byt has =>
    congr 1
    funext j
    dsimp only at h ⊢
    split
    · rename_i e; rw [e, h]
    · rfl
theorem TL.took {w w' : World} {p : Nat} {L : Lay} {T : TB} (H : TL w p L T) {i : Nat} {x : Nd} (hi : T[i]? = some (some x)) {kk f : Nat} (hk : L.pf i kk = none) (hk64 : kk < 64) (hf : f < L.l.length) (hfe : L.l[f]? = some []) (hg : GrownS w w' (fun k => k = L.m i ∨ k = L.hs))
    (hst : BAt w' L.s L.gs L.hs (L.l.set f z64)) (hn : NAt w' (L.q i) (L.m i) (xput x kk) (pput (L.pf i) kk f)) :
    TL w' p { L with pf := updF L.pf i (pput (L.pf i) kk f), l := L.l.set f z64 } (T.set i (some (xput x kk))) := by
  have ho : ∀ j c, pput (L.pf i) kk f j = some c → (j = kk ∧ c = f) ∨ (j ≠ kk ∧ L.pf i j = some c ∧ c ≠ f) := fun j c hj => by
    unfold pput at hj
    split at hj
    · rename_i e
      injection hj with hj
      exact .inl ⟨e, hj.symm⟩
    · rename_i hne
      refine .inr ⟨hne, hj, fun e => ?_⟩
      obtain ⟨y, hy, hyn⟩ := H.part i x hi j c hj
      rw [e, hfe] at hy
      injection hy with hy
      exact hyn hy.symm
  refine H.step hi hg (fun k _ e => by rcases e with e | e; exact .inr (.inl e); exact .inr (.inr (.inr e))) hst hn (fun k => ?_) (fun k c hc => ?_) (fun k k' c h1 h2 => ?_) (fun j z k c hj hz hc => ⟨fun k' h2 => ?_, ?_⟩) (fun j => ?_) ?_ (by simp)
  · rw [isS_put]
    show (if k = kk then true else x.has k) = if k = kk then true else isS (L.pf i) k
    rw [H.has i x hi k]
  · rcases ho k c hc with ⟨_, rfl⟩ | ⟨_, h2, h3⟩
    · exact ⟨z64, by rw [List.getElem?_set, if_pos rfl, if_pos hf], by simp [z64]⟩
    · rw [List.getElem?_set, if_neg (fun e => h3 e.symm)]
      exact H.part i x hi k c h2
  · rcases ho k c h1 with ⟨a1, a2⟩ | ⟨a1, a2, a3⟩ <;> rcases ho k' c h2 with ⟨b1, b2⟩ | ⟨b1, b2, b3⟩
    · rw [a1, b1]
    · exact absurd a2 b3
    · exact absurd b2 a3
    · exact (H.one i i x x hi hi k k' c a2 b2).2
  · rcases ho k' c h2 with ⟨_, b2⟩ | ⟨_, b2, _⟩
    · obtain ⟨y, hy, hyn⟩ := H.part j z hz k c hc
      rw [b2, hfe] at hy
      injection hy with hy
      exact hyn hy.symm
    · exact hj (H.one j i z x hz hi k k' c hc b2).1
  · rw [List.getElem?_set, if_neg]
    intro e
    obtain ⟨y, hy, hyn⟩ := H.part j z hz k c hc
    rw [← e, hfe] at hy
    injection hy with hy
    exact hyn hy.symm
  · show x.byt j = byteOf (L.l.set f z64) (pput (L.pf i) kk f) j
    rw [H.byte i x hi j]
    unfold byteOf
    by_cases e : j / 64 = kk
    · rw [show pput (L.pf i) kk f (j / 64) = some f from if_pos e, e, hk]
      show 0 = bAt (L.l.set f z64) f (j % 64)
      rw [bAt_set hf, if_pos rfl, z64_at]
    · rw [show pput (L.pf i) kk f (j / 64) = L.pf i (j / 64) from if_neg e]
      cases hc : L.pf i (j / 64) with
      | none => rfl
      | some c =>
        show bAt L.l c _ = bAt (L.l.set f z64) c _
        have hcf : c ≠ f := fun e2 => by
          obtain ⟨y, hy, hyn⟩ := H.part i x hi _ c hc
          rw [e2, hfe] at hy
          injection hy with hy
          exact hyn hy.symm
        rw [bAt_set hf, if_neg hcf]
  · have h1 := freeN_set hfe z64
    have h2 := cnt_upd x.has kk true hk64
    have h3 := H.has i x hi kk
    rw [show isS (L.pf i) kk = false by unfold isS; rw [hk]; rfl] at h3
    rw [h3] at h2
    rw [if_pos (by rfl), if_neg (by decide)] at h1
    rw [if_pos rfl, if_neg (by decide)] at h2
    show freeN (L.l.set f z64) + cnt (fun j => if j = kk then true else x.has j) = _
    omega
/-- A block of a node is written to. -/
def xwr (x : Nd) (o : Nat) (d : List UInt8) : Nd := { x with byt := fun j => if o ≤ j ∧ j < o + d.length then d.getD (j - o) 0 else x.byt j }
theorem putAt_get {y d : List UInt8} {k j : Nat} (hy : y.length = 64) (hk : k + d.length ≤ 64) : (putAt y k d).getD j 0 = if k ≤ j ∧ j < k + d.length then d.getD (j - k) 0 else y.getD j 0 := by
  unfold putAt
  rw [List.getD_eq_getElem?_getD, List.append_assoc, List.getElem?_append, List.getElem?_append, List.length_take, hy, Nat.min_eq_left (by omega)]
  by_cases h1 : j < k
  · rw [if_pos h1, if_neg (by omega), List.getElem?_take, if_pos h1, List.getD_eq_getElem?_getD]
  · rw [if_neg h1]
    by_cases h2 : j < k + d.length
    · rw [if_pos (by omega), if_pos (by omega), List.getD_eq_getElem?_getD]
    · rw [if_neg (by omega), if_neg (by omega), List.getElem?_drop, List.getD_eq_getElem?_getD, show k + d.length + (j - k - d.length) = j by omega]
theorem TL.wrote {w w' : World} {p : Nat} {L : Lay} {T : TB} (H : TL w p L T) {i : Nat} {x : Nd} (hi : T[i]? = some (some x)) {kk b fr : Nat} {y d : List UInt8} (hb : L.pf i kk = some b) (hy : L.l[b]? = some y) (hfd : fr + d.length ≤ 64) (hg : GrownS w w' (fun k => k = L.gs))
    (hst : BAt w' L.s L.gs L.hs (L.l.set b (putAt y fr d))) :
    TL w' p { L with pf := updF L.pf i (L.pf i), l := L.l.set b (putAt y fr d) } (T.set i (some (xwr x (64 * kk + fr) d))) := by
  obtain ⟨y', hy', hyn⟩ := H.part i x hi kk b hb
  obtain rfl : y = y' := by rw [hy] at hy'; injection hy'
  have hyl := H.store.wf.len hy hyn
  have hbl := (List.getElem?_eq_some_iff.1 hy).1
  have n1 := H.ne hi
  have hpl := put_len hyl hfd
  have hpn : putAt y fr d ≠ [] := fun e => by rw [e] at hpl; cases hpl
  refine H.step hi hg (fun k _ e => .inr (.inr (.inl e))) hst ⟨((H.node i x hi).grownS hg n1.1.2.2.2.1 n1.2.2.2.2.1).blk, ((H.node i x hi).grownS hg n1.1.2.2.2.1 n1.2.2.2.2.1).own⟩ (H.has i x hi) (fun k c hc => ?_) (fun k k' c h1 h2 => (H.one i i x x hi hi k k' c h1 h2).2) (fun j z k c hj hz hc => ⟨fun k' h2 => hj (H.one j i z x hz hi k k' c hc h2).1, ?_⟩) (fun j => ?_) ?_ (by simp)
  · by_cases e : c = b
    · subst e
      exact ⟨_, by rw [List.getElem?_set, if_pos rfl, if_pos hbl], hpn⟩
    · rw [List.getElem?_set, if_neg (fun e2 => e e2.symm)]
      exact H.part i x hi k c hc
  · rw [List.getElem?_set, if_neg]
    intro e
    subst e
    exact hj (H.one j i z x hz hi k kk b hc hb).1
  · show (if 64 * kk + fr ≤ j ∧ j < 64 * kk + fr + d.length then d.getD (j - (64 * kk + fr)) 0 else x.byt j) = byteOf (L.l.set b (putAt y fr d)) (L.pf i) j
    rw [H.byte i x hi j]
    unfold byteOf
    by_cases e : j / 64 = kk
    · rw [e, hb]
      show (if 64 * kk + fr ≤ j ∧ j < 64 * kk + fr + d.length then d.getD (j - (64 * kk + fr)) 0 else bAt L.l b (j % 64)) = bAt (L.l.set b (putAt y fr d)) b (j % 64)
      rw [bAt_set hbl, if_pos rfl, putAt_get hyl hfd, bAt_of hy]
      by_cases h1 : fr ≤ j % 64 ∧ j % 64 < fr + d.length
      · rw [if_pos h1, if_pos (by omega), show j - (64 * kk + fr) = j % 64 - fr by omega]
      · rw [if_neg h1, if_neg (by omega)]
    · rw [if_neg (by omega)]
      cases hc : L.pf i (j / 64) with
      | none => rfl
      | some c =>
        show bAt L.l c _ = bAt (L.l.set b (putAt y fr d)) c _
        have hcb : c ≠ b := fun e2 => e (by subst e2; exact (H.one i i x x hi hi _ kk c hc hb).2)
        rw [bAt_set hbl, if_neg hcb]
  · have h1 := freeN_set hy (putAt y fr d)
    rw [show y.isEmpty = false by cases y with | nil => exact absurd rfl hyn | cons _ _ => rfl, show (putAt y fr d).isEmpty = false by cases h : putAt y fr d with | nil => exact absurd h hpn | cons _ _ => rfl] at h1
    show freeN (L.l.set b (putAt y fr d)) + cnt x.has = _
    omega
/-- What block leaves. -/
def Blkd (w w' : World) (p : Nat) (L : Lay) (T : TB) (i : Nat) (x : Nd) (part : Nat) (B E : Int) : Prop :=
  (E = 0 ∧ ∃ (b : Nat) (pf : PF) (l : BL), B = (b : Int) + 1 ∧ pf part = some b ∧ TL w' p { L with pf := updF L.pf i pf, l := l } (T.set i (some (xput x part))) ∧ l.length = L.l.length ∧ GrownS w w' (fun k => k = L.m i ∨ k = L.hs)) ∨
  (E = 20 ∧ B = 0 ∧ x.has part = false ∧ freeN L.l = 0 ∧ TL w' p L T ∧ GrownS w w' (fun k => k = L.m i ∨ k = L.hs))
set_option maxRecDepth 20000 in
set_option maxHeartbeats 1000000 in
theorem block_any {w : World} {p : Nat} {L : Lay} {T : TB} (H : TL w p L T) {i : Nat} {x : Nd} (hi : T[i]? = some (some x)) (part : Nat) (hp : part < 64) :
    Calls Tryz.prog 195 #[.pointer (some ⟨p, 0, none⟩), .pointer (some ⟨L.q i, 0, none⟩), .int .i64 (part : Int)] w fun e w' => ∃ B E : Int, e = .returned (.tuple #[.int .i64 B, .int .i64 E]) ∧ Hid (Blkd w w' p L T i x part B E) := by
  obtain ⟨D, hD, hR⟩ := (H.node i x hi).own
  have cm : w.cell? ⟨L.q i, 4, none⟩ = some (.map (some (L.m i))) := (H.node i x hi).blk.cell 4 rfl
  have cs : w.cell? ⟨p, 1, none⟩ = some (.pointer (some ⟨L.s, 0, none⟩)) := H.tab.cell 1 rfl
  have hwf : (Lit.int .i64 (part : Int)).wf = true := by simp [Lit.wf, IntKind.min, IntKind.max, IntKind.signed, IntKind.bits]; omega
  have hkey := keyI hwf
  have hh := hR.has (part : Int)
  rw [show ((part : Int)).toNat = part by omega] at hh
  have HTL := hide H
  cases hc : L.pf i part with
  | some b =>
    have hh2 : Maps.has D (.int .i64 (part : Int)) = true := by rw [hh]; unfold isS; rw [hc]; simp
    have hat0 := hR.at' part b hc (.lit (.int .i64 0))
    have HE : Hid (Blkd w w p L T i x part ((b : Int) + 1) 0) := hide (.inl ⟨rfl, b, L.pf i, L.l, rfl, hc, by
      rw [xput_same (by rw [H.has i x hi]; unfold isS; rw [hc]; rfl), set_self hi, updF_self]
      exact H, rfl, grownS_of_below (Below.refl _ _)⟩)
    obtain ⟨m, hm⟩ : ∃ m, m = L.m i := ⟨_, rfl⟩
    obtain ⟨q, hq⟩ : ∃ q, q = L.q i := ⟨_, rfl⟩
    rw [← hm] at hD cm
    rw [← hq] at cm ⊢
    have HD := hide hD
    have HK := hide hkey
    have HH := hide hh2
    have HA := hide hat0
    clear H hi hR hh hm hq hc hD hkey hh2 hat0 hwf HTL
    go_enter Tryz.func195, Tryz.ntmps195
    go_wp2_with (first
      | (at_lookup; refine wpList_lookup_own_ok_int _ rfl _ _ 153 rfl 3 3 .i64 lawI Tryz.underlying153 Tryz.underlying3 (zeroI _) m _ _ rfl (unhide HD) _ _ rfl (unhide HK) ?_; intro c hat hwc; rw [unhide HH]; obtain rfl : c = (b : Int) + 1 := (by rw [unhide HA] at hat; injection hat with hat; injection hat with _ hat; exact hat.symm); clear hat hwc)
      | go_in)
    go_ret2
    exact ⟨_, _, rfl, HE⟩
  | none =>
    have hh2 : Maps.has D (.int .i64 (part : Int)) = false := by rw [hh]; unfold isS; rw [hc]; simp
    have hno : x.has part = false := by rw [H.has i x hi]; unfold isS; rw [hc]; rfl
    have n1 := H.ne hi
    have HT := hide (take_any w L.s L.gs L.hs L.l H.store)
    by_cases hf : freeAt L.l < L.l.length
    · obtain ⟨f, hfe⟩ : ∃ f, f = freeAt L.l := ⟨_, rfl⟩
      have hfl : L.l[f]? = some [] := by
        rw [hfe, List.getElem?_eq_getElem hf]
        have h2 : (L.l[freeAt L.l]).isEmpty = true := List.findIdx_getElem (w := hf)
        rw [List.isEmpty_iff.1 h2]
      rw [show takeN L.l = (f : Int) + 1 by unfold takeN; rw [if_pos hf, hfe], show takeE L.l = 0 by unfold takeE; rw [if_pos hf], show takeL L.l = L.l.set f z64 by unfold takeL; rw [if_pos hf, hfe]] at HT
      have hmx := H.store.wf.max
      have hsz := hD.size_le
      have hs64 : Maps.size D ≤ 64 := by rw [hR.size]; exact cnt_le _
      have HW1 : Hid (∀ w1, BAt w1 L.s L.gs L.hs (L.l.set f z64) → GrownS w w1 (fun k => k = L.hs) → w1.cell? ⟨L.q i, 4, none⟩ = some (.map (some (L.m i))) ∧ w1.ownsMap Tryz.prog 3 PE (L.m i) (Maps.size D) D) := hide (fun w1 h1 h2 =>
        ⟨((H.node i x hi).blk.grownS h2 n1.1.2.2.2.2).cell 4 rfl, ownsMap_grownS hD h2 n1.2.2.2.2.2⟩)
      have HE : Hid (∀ w1 w2, BAt w1 L.s L.gs L.hs (L.l.set f z64) → GrownS w w1 (fun k => k = L.hs) → w2.ownsMap Tryz.prog 3 PE (L.m i) (Maps.size D + 1) (D.put (.int .i64 (part : Int)) (.lit (.int .i64 ((f : Int) + 1)))) → w1.grownBy w2 (some (L.m i)) → Blkd w w2 p L T i x part ((f : Int) + 1) 0) := hide (fun w1 w2 h1 h2 h3 h4 => by
        have g2 : GrownS w1 w2 (fun k => k = L.m i) := GrownS.of h4 (fun k e => by simpa using e)
        have g3 : GrownS w w2 (fun k => k = L.m i ∨ k = L.hs) := (h2.mono (fun k _ e => .inr e)).trans (g2.mono (fun k _ e => .inl e))
        refine .inl ⟨rfl, f, pput (L.pf i) part f, L.l.set f z64, rfl, if_pos rfl, ?_, by simp, g3⟩
        refine H.took hi hc hp (by omega) hfl g3 (h1.grownS g2 n1.2.2.2.1.symm n1.2.2.2.2.1.symm n1.2.2.2.2.2.symm) ⟨(H.node i x hi).blk.grownS g3 (fun e => by rcases e with e | e; exact H.qm hi hi e; exact n1.1.2.2.2.2 e), _, ownsMap_tight h3, hR.put f hc hp⟩)
      have hwv : (Lit.int .i64 ((f : Int) + 1)).wf = true := by simp [Lit.wf, IntKind.min, IntKind.max, IntKind.signed, IntKind.bits]; omega
      obtain ⟨m, hm⟩ : ∃ m, m = L.m i := ⟨_, rfl⟩
      obtain ⟨q, hq⟩ : ∃ q, q = L.q i := ⟨_, rfl⟩
      obtain ⟨s, hs⟩ : ∃ s, s = L.s := ⟨_, rfl⟩
      rw [← hm] at hD cm HW1 HE
      rw [← hq] at cm HW1 ⊢
      rw [← hs] at cs HT HW1 HE
      have HD := hide hD
      have HK := hide hkey
      have HH := hide hh2
      have HWV := hide hwv
      clear H hi hR hh hm hq hc hD hkey hh2 hwf HTL hno n1 hf hfe hfl hs hwv hsz
      go_enter Tryz.func195, Tryz.ntmps195
      go_wp2_with (first
        | (at_lookup; refine wpList_lookup_own_ok_int _ rfl _ _ 153 rfl 3 3 .i64 lawI Tryz.underlying153 Tryz.underlying3 (zeroI _) m _ _ rfl (unhide HD) _ _ rfl (unhide HK) ?_; intro c hat hwc; rw [unhide HH]; clear hat hwc)
        | fail)
      refine (unhide HT).mono ?_
      rintro e w1 ⟨rfl, h1, h2⟩
      obtain ⟨c1, o1⟩ := unhide HW1 w1 h1 h2
      have HO := hide o1
      have H1 := hide h1
      have H2 := hide h2
      clear h1 h2 o1 cm
      go_wp2_with (first
        | (at_mapUpdate; refine wpList_mapUpdate_own _ rfl _ _ _ 153 rfl 3 3 lawI Tryz.underlying153 _ m _ _ rfl (unhide HO) (by unfold maxLen; omega) _ _ _ rfl rfl (unhide HK) _ [] (plainElem_int Tryz.underlying3 (unhide HWV)) ?_; intro w2 o2 g2; have HB := hide (unhide HE w1 w2 (unhide H1) (unhide H2) o2 g2); clear o2 g2)
        | go_in)
      go_ret2
      exact ⟨_, _, rfl, HB⟩
    · rw [show takeN L.l = 0 by unfold takeN; rw [if_neg hf], show takeE L.l = 20 by unfold takeE; rw [if_neg hf], show takeL L.l = L.l by unfold takeL; rw [if_neg hf]] at HT
      have HE : Hid (∀ w1, BAt w1 L.s L.gs L.hs L.l → GrownS w w1 (fun k => k = L.hs) → Blkd w w1 p L T i x part 0 20) := hide (fun w1 h1 h2 => by
        have h3 : freeN L.l = 0 := by
          rcases Nat.eq_zero_or_pos (freeN L.l) with h3 | h3
          · exact h3
          · exact absurd (freeAt_pos.2 h3) hf
        have g3 : GrownS w w1 (fun k => k = L.m i ∨ k = L.hs) := h2.mono (fun k _ e => .inr e)
        refine .inr ⟨rfl, rfl, hno, h3, ?_, g3⟩
        have := H.step hi g3 (fun k _ e => by rcases e with e | e; exact .inr (.inl e); exact .inr (.inr (.inr e))) h1 (x' := x) (pf' := L.pf i) ((H.node i x hi).grownS h2 n1.1.2.2.2.2 n1.2.2.2.2.2) (H.has i x hi) (H.part i x hi) (fun k k' c h1 h2 => (H.one i i x x hi hi k k' c h1 h2).2) (fun j z k c hj hz hc => ⟨fun k' h2 => hj (H.one j i z x hz hi k k' c hc h2).1, rfl⟩) (H.byte i x hi) rfl rfl
        rw [set_self hi, updF_self] at this
        exact this)
      obtain ⟨m, hm⟩ : ∃ m, m = L.m i := ⟨_, rfl⟩
      obtain ⟨q, hq⟩ : ∃ q, q = L.q i := ⟨_, rfl⟩
      obtain ⟨s, hs⟩ : ∃ s, s = L.s := ⟨_, rfl⟩
      rw [← hm] at hD cm
      rw [← hq] at cm ⊢
      rw [← hs] at cs HT HE
      have HD := hide hD
      have HK := hide hkey
      have HH := hide hh2
      clear H hi hR hh hm hq hc hD hkey hh2 hwf HTL hno n1 hf hs
      go_enter Tryz.func195, Tryz.ntmps195
      go_wp2_with (first
        | (at_lookup; refine wpList_lookup_own_ok_int _ rfl _ _ 153 rfl 3 3 .i64 lawI Tryz.underlying153 Tryz.underlying3 (zeroI _) m _ _ rfl (unhide HD) _ _ rfl (unhide HK) ?_; intro c hat hwc; rw [unhide HH]; clear hat hwc)
        | fail)
      refine (unhide HT).mono ?_
      rintro e w1 ⟨rfl, h1, h2⟩
      have HB := hide (unhide HE w1 h1 h2)
      clear h1 h2
      go_wp2
      go_ret2
      exact ⟨_, _, rfl, HB⟩

end Go.Proofs.YtemologkibcdoaaGreatDoor

/- put; Write. -/
namespace Go.Proofs.YtemologkibcdoaaGreatDoor
open Go.RowKit Go.Maps

/-- A node of which so many bytes are written; its size is not turned yet. -/
def putB (x : Nd) (a : Nat) (d : List UInt8) (done : Nat) : Nd := { x with byt := fun j => if a ≤ j ∧ j < a + done then d.getD (j - a) 0 else x.byt j, has := hasP x.has a done }
theorem putB_zero (x : Nd) (a : Nat) (d : List UInt8) : putB x a d 0 = x := by
  unfold putB
  cases x with
  | mk kind names users size byt has =>
    congr 1
    · funext j
      dsimp only
      rw [if_neg (by omega)]
    · exact hasP_zero _ _
theorem putB_next {x : Nd} {a done k : Nat} {d : List UInt8} (hk : 0 < k) (hd : done + k ≤ d.length) (hf : (a + done) % 64 + k ≤ 64) :
    xwr (xput (putB x a d done) ((a + done) / 64)) (64 * ((a + done) / 64) + (a + done) % 64) ((d.drop done).take k) = putB x a d (done + k) := by
  unfold xwr xput putB
  dsimp only
  have hl : ((d.drop done).take k).length = k := by simp; omega
  congr 1
  · funext j
    rw [hl, show 64 * ((a + done) / 64) + (a + done) % 64 = a + done by omega]
    by_cases h1 : a + done ≤ j ∧ j < a + done + k
    · rw [if_pos h1, if_pos (by omega), List.getD_eq_getElem?_getD, List.getElem?_take, if_pos (by omega), List.getElem?_drop, List.getD_eq_getElem?_getD, show done + (j - (a + done)) = j - a by omega]
    · rw [if_neg h1]
      by_cases h2 : a ≤ j ∧ j < a + done
      · rw [if_pos h2, if_pos (by omega)]
      · rw [if_neg h2, if_neg (by omega)]
  · funext j
    unfold hasP
    by_cases e : j = (a + done) / 64
    · rw [if_pos e, show (decide (0 < done + k) && decide (a / 64 ≤ j) && decide (64 * j < a + (done + k))) = true by simp; omega]
      simp
    · rw [if_neg e]
      congr 1
      by_cases h1 : a / 64 ≤ j
      · by_cases h2 : 64 * j < a + done
        · by_cases h3 : 0 < done
          · rw [show decide (0 < done) = true by simpa using h3, show decide (64 * j < a + done) = true by simpa using h2, show decide (0 < done + k) = true by simp; omega, show decide (64 * j < a + (done + k)) = true by simp; omega]
          · rw [show decide (0 < done) = false by simpa using h3, show decide (64 * j < a + (done + k)) = false by simp; omega]
            simp
        · rw [show decide (64 * j < a + done) = false by simpa using h2, show decide (64 * j < a + (done + k)) = false by simp; omega]
          simp
      · rw [show decide (a / 64 ≤ j) = false by simpa using h1]
        simp
structure PT (w wr : World) (p : Nat) (L : Lay) (T : TB) (i : Nat) (x : Nd) (a : Nat) (d : List UInt8) (done : Nat) (pf : PF) (l : BL) : Prop where
  tl : TL wr p { L with pf := updF L.pf i pf, l := l } (T.set i (some (putB x a d done)))
  len : l.length = L.l.length
  gr : GrownS w wr (fun k => k = L.m i ∨ k = L.gs ∨ k = L.hs)
  brk : done = 0 ∨ done = d.length ∨ (a + done) % 64 = 0
theorem PT.count {w wr : World} {p : Nat} {L : Lay} {T : TB} {i : Nat} {x : Nd} {a : Nat} {d : List UInt8} {done : Nat} {pf : PF} {l : BL} (G : PT w wr p L T i x a d done pf l) (H : TL w p L T) (hi : T[i]? = some (some x)) : freeN l + cnt (hasP x.has a done) = freeN L.l + cnt x.has := by
  have h1 := H.count
  have h2 := G.tl.count
  have h3 := usedT_set T i (some x) (some (putB x a d done)) hi
  have h4 := G.len
  simp only [usd] at h3
  have h5 : freeN l + usedT (T.set i (some (putB x a d done))) = l.length := h2
  have h6 : cnt (putB x a d done).has = cnt (hasP x.has a done) := rfl
  omega
/-- What put leaves. -/
def PutL (w w' : World) (p : Nat) (L : Lay) (T : TB) (i : Nat) (x : Nd) (a : Nat) (d : List UInt8) (done : Nat) : Prop :=
  ∃ pf l, PutSp x.has (freeN L.l) a d.length done ∧ TL w' p { L with pf := updF L.pf i pf, l := l } (T.set i (some (putB x a d done))) ∧ l.length = L.l.length ∧ GrownS w w' (fun k => k = L.m i ∨ k = L.gs ∨ k = L.hs)
/-- A round of put that writes. -/
theorem PT.next {w wr w1 : World} {p : Nat} {L : Lay} {T : TB} {i : Nat} {x : Nd} {a : Nat} {d : List UInt8} {done k : Nat} {pf : PF} {l : BL} (G : PT w wr p L T i x a d done pf l) (hi : T[i]? = some (some x)) (hlt : done < d.length) (hk : 0 < k) (hd : done + k ≤ d.length) (hf : (a + done) % 64 + k ≤ 64) (hend : done + k = d.length ∨ (a + done) % 64 + k = 64)
    {B : Int} (hB : Blkd wr w1 p { L with pf := updF L.pf i pf, l := l } (T.set i (some (putB x a d done))) i (putB x a d done) ((a + done) / 64) B 0) :
    w1.cell? ⟨p, 1, none⟩ = some (.pointer (some ⟨L.s, 0, none⟩)) ∧ Calls Tryz.prog 142 #[.pointer (some ⟨L.s, 0, none⟩), .int .i64 B, .int .i64 (((a + done) % 64 : Nat) : Int), .string (BA ((d.drop done).take k))] w1 fun e w2 => ∃ E : Int, e = .returned (.int .i64 E) ∧ ∃ pf' l', PT w w2 p L T i x a d (done + k) pf' l' := by
  rcases hB with ⟨_, b, pf1, l1, rfl, hb, t1, hl1, g1⟩ | ⟨h, _⟩
  · have hl1 : l1.length = l.length := hl1
    have g1 : GrownS wr w1 (fun k => k = L.m i ∨ k = L.hs) := g1
    rw [List.set_set] at t1
    have t1 : TL w1 p { L with pf := updF (updF L.pf i pf) i pf1, l := l1 } (T.set i (some (xput (putB x a d done) ((a + done) / 64)))) := t1
    rw [updF_twice] at t1
    have hpi : updF L.pf i pf1 i = pf1 := if_pos rfl
    obtain ⟨y, hy, hyn⟩ := t1.part i _ (set_same hi) _ b (by show updF L.pf i pf1 i _ = _; rw [hpi]; exact hb)
    have hy : l1[b]? = some y := hy
    have hbl := (List.getElem?_eq_some_iff.1 hy).1
    have hmx : l1.length ≤ 4096 := t1.store.wf.max
    have hl : ((d.drop done).take k).length = k := by simp; omega
    refine ⟨t1.tab.cell 1 rfl, (write_any w1 L.s L.gs L.hs l1 ((b : Int) + 1) (((a + done) % 64 : Nat) : Int) ((d.drop done).take k) t1.store (by omega) (by omega)).mono ?_⟩
    rintro e w2 ⟨h1, h2, h3⟩
    have hw : writeL l1 ((b : Int) + 1) (((a + done) % 64 : Nat) : Int) ((d.drop done).take k) = l1.set b (putAt y ((a + done) % 64) ((d.drop done).take k)) := by
      unfold writeL
      rw [tkn_of hy, show (!y.isEmpty) = true by cases y with | nil => exact absurd rfl hyn | cons _ _ => rfl, show inB (((a + done) % 64 : Nat) : Int) ((((d.drop done).take k).length : Nat) : Int) = true by rw [hl]; simp [inB]; omega, show ((b : Int) + 1 - 1).toNat = b by omega]
      simp only [Bool.and_self, if_true]
      rw [List.getD_eq_getElem?_getD, hy]
      rfl
    rw [hw] at h2
    have h3 : GrownS w1 w2 (fun k => k = L.gs) := h3
    have t2 := t1.wrote (set_same hi) (kk := (a + done) / 64) (b := b) (fr := (a + done) % 64) (by show updF L.pf i pf1 i _ = _; rw [hpi]; exact hb) hy (by rw [hl]; omega) h3 h2
    rw [List.set_set, putB_next hk hd hf] at t2
    have t2 : TL w2 p { L with pf := updF (updF L.pf i pf1) i (updF L.pf i pf1 i), l := l1.set b (putAt y ((a + done) % 64) ((d.drop done).take k)) } (T.set i (some (putB x a d (done + k)))) := t2
    rw [updF_twice] at t2
    refine ⟨_, h1, _, _, t2, by rw [List.length_set, hl1]; exact G.len, (G.gr.trans (g1.mono (fun k _ e => by rcases e with e | e; exact .inl e; exact .inr (.inr e)))).trans (h3.mono (fun k _ e => .inr (.inl e))), by omega⟩
  · cases h
theorem PT.stop {w wr w1 : World} {p : Nat} {L : Lay} {T : TB} {i : Nat} {x : Nd} {a : Nat} {d : List UInt8} {done : Nat} {pf : PF} {l : BL} (G : PT w wr p L T i x a d done pf l) (H : TL w p L T) (hi : T[i]? = some (some x)) (hlt : done < d.length) (hmx : a + d.length ≤ 4096)
    {B : Int} (hB : Blkd wr w1 p { L with pf := updF L.pf i pf, l := l } (T.set i (some (putB x a d done))) i (putB x a d done) ((a + done) / 64) B 20) : PutL w w1 p L T i x a d done := by
  rcases hB with ⟨h, _⟩ | ⟨_, _, h1, h2, h3, h4⟩
  · cases h
  · have hc := G.count H hi
    have h2 : freeN l = 0 := h2
    have h1 : hasP x.has a done ((a + done) / 64) = false := h1
    refine ⟨pf, l, ⟨by omega, by omega, by omega, .inr ⟨by omega, ?_, ?_⟩⟩, h3, G.len, G.gr.trans (h4.mono (fun k _ e => by rcases e with e | e; exact .inl e; exact .inr (.inr e)))⟩
    · unfold hasP at h1
      simp only [Bool.or_eq_false_iff] at h1
      exact h1.1
    · rcases G.brk with e | e | e
      · exact .inl e
      · omega
      · exact .inr e
set_option maxRecDepth 20000 in
set_option maxHeartbeats 1000000 in
theorem put_any {w : World} {p : Nat} {L : Lay} {T : TB} (H : TL w p L T) {i : Nat} {x : Nd} (hi : T[i]? = some (some x)) (a : Nat) (d : List UInt8) (hmx : a + d.length ≤ 4096) :
    Calls Tryz.prog 188 #[.pointer (some ⟨p, 0, none⟩), .pointer (some ⟨L.q i, 0, none⟩), .int .i64 (a : Int), .string (BA d)] w fun e w' => ∃ done : Nat, e = .returned (.int .i64 (done : Int)) ∧ done ≤ d.length ∧ Hid (PutL w w' p L T i x a d done) := by
  have HBL : Hid (∀ wr done pf l, PT w wr p L T i x a d done pf l → done < d.length → Calls Tryz.prog 195 #[.pointer (some ⟨p, 0, none⟩), .pointer (some ⟨L.q i, 0, none⟩), .int .i64 (((a + done) / 64 : Nat) : Int)] wr fun e w' => ∃ B E : Int, e = .returned (.tuple #[.int .i64 B, .int .i64 E]) ∧ Hid (Blkd wr w' p { L with pf := updF L.pf i pf, l := l } (T.set i (some (putB x a d done))) i (putB x a d done) ((a + done) / 64) B E)) := hide (fun wr done pf l G hlt => block_any G.tl (set_same hi) ((a + done) / 64) (by omega))
  have HNX : Hid (∀ wr w1 done k pf l B, PT w wr p L T i x a d done pf l → done < d.length → 0 < k → done + k ≤ d.length → (a + done) % 64 + k ≤ 64 → (done + k = d.length ∨ (a + done) % 64 + k = 64) → Blkd wr w1 p { L with pf := updF L.pf i pf, l := l } (T.set i (some (putB x a d done))) i (putB x a d done) ((a + done) / 64) B 0 →
      w1.cell? ⟨p, 1, none⟩ = some (.pointer (some ⟨L.s, 0, none⟩)) ∧ Calls Tryz.prog 142 #[.pointer (some ⟨L.s, 0, none⟩), .int .i64 B, .int .i64 (((a + done) % 64 : Nat) : Int), .string (BA ((d.drop done).take k))] w1 fun e w2 => ∃ E : Int, e = .returned (.int .i64 E) ∧ ∃ pf' l', PT w w2 p L T i x a d (done + k) pf' l') := hide (fun wr w1 done k pf l B G h1 h2 h3 h4 h5 h6 => G.next hi h1 h2 h3 h4 h5 h6)
  have HST : Hid (∀ wr w1 done pf l B, PT w wr p L T i x a d done pf l → done < d.length → Blkd wr w1 p { L with pf := updF L.pf i pf, l := l } (T.set i (some (putB x a d done))) i (putB x a d done) ((a + done) / 64) B 20 → PutL w w1 p L T i x a d done) := hide (fun wr w1 done pf l B G h1 h2 => G.stop H hi h1 hmx h2)
  have HEN : Hid (∀ wr pf l, PT w wr p L T i x a d d.length pf l → PutL w wr p L T i x a d d.length) := hide (fun wr pf l G => by
    have hc := G.count H hi
    exact ⟨pf, l, ⟨Nat.le_refl _, hmx, by omega, .inl rfl⟩, G.tl, G.len, G.gr⟩)
  have HS0 : Hid (PT w w p L T i x a d 0 (L.pf i) L.l) := hide ⟨by rw [putB_zero, set_self hi, updF_self]; exact H, rfl, grownS_of_below (Below.refl _ _), .inl rfl⟩
  obtain ⟨PX, hPX⟩ : ∃ P : World → Nat → PF → BL → Prop, P = fun wr done pf l => PT w wr p L T i x a d done pf l := ⟨_, rfl⟩
  obtain ⟨BX, hBX⟩ : ∃ P : World → World → Nat → PF → BL → Int → Int → Prop, P = fun wr w1 done pf l B E => Blkd wr w1 p { L with pf := updF L.pf i pf, l := l } (T.set i (some (putB x a d done))) i (putB x a d done) ((a + done) / 64) B E := ⟨_, rfl⟩
  obtain ⟨QX, hQX⟩ : ∃ P : World → Nat → Prop, P = fun w1 done => PutL w w1 p L T i x a d done := ⟨_, rfl⟩
  have HBE : Hid (∀ wr w1 done pf l B E, BX wr w1 done pf l B E → E = 0 ∨ E = 20) := hide (by rw [hBX]; intro wr w1 done pf l B E h; rcases h with h | h; exact .inl h.1; exact .inr h.1)
  replace HBL : Hid (∀ wr done pf l, PX wr done pf l → done < d.length → Calls Tryz.prog 195 #[.pointer (some ⟨p, 0, none⟩), .pointer (some ⟨L.q i, 0, none⟩), .int .i64 (((a + done) / 64 : Nat) : Int)] wr fun e w' => ∃ B E : Int, e = .returned (.tuple #[.int .i64 B, .int .i64 E]) ∧ Hid (BX wr w' done pf l B E)) := hide (by rw [hPX, hBX]; exact unhide HBL)
  replace HNX : Hid (∀ wr w1 done k pf l B, PX wr done pf l → done < d.length → 0 < k → done + k ≤ d.length → (a + done) % 64 + k ≤ 64 → (done + k = d.length ∨ (a + done) % 64 + k = 64) → BX wr w1 done pf l B 0 →
      w1.cell? ⟨p, 1, none⟩ = some (.pointer (some ⟨L.s, 0, none⟩)) ∧ Calls Tryz.prog 142 #[.pointer (some ⟨L.s, 0, none⟩), .int .i64 B, .int .i64 (((a + done) % 64 : Nat) : Int), .string (BA ((d.drop done).take k))] w1 fun e w2 => ∃ E : Int, e = .returned (.int .i64 E) ∧ ∃ pf' l', PX w2 (done + k) pf' l') := hide (by rw [hPX, hBX]; exact unhide HNX)
  replace HST : Hid (∀ wr w1 done pf l B, PX wr done pf l → done < d.length → BX wr w1 done pf l B 20 → QX w1 done) := hide (by rw [hPX, hBX, hQX]; exact unhide HST)
  replace HEN : Hid (∀ wr pf l, PX wr d.length pf l → QX wr d.length) := hide (by rw [hPX, hQX]; exact unhide HEN)
  replace HS0 : Hid (PX w 0 (L.pf i) L.l) := hide (by rw [hPX]; exact unhide HS0)
  suffices hsuf : Calls Tryz.prog 188 #[.pointer (some ⟨p, 0, none⟩), .pointer (some ⟨L.q i, 0, none⟩), .int .i64 (a : Int), .string (BA d)] w fun e w' => ∃ done : Nat, e = .returned (.int .i64 (done : Int)) ∧ done ≤ d.length ∧ Hid (QX w' done) by
    rw [hQX] at hsuf
    exact hsuf
  clear hPX hBX hQX H hi
  obtain ⟨q, hq⟩ : ∃ q, q = L.q i := ⟨_, rfl⟩
  obtain ⟨s, hs⟩ : ∃ s, s = L.s := ⟨_, rfl⟩
  rw [← hq] at HBL ⊢
  rw [← hs] at HNX
  clear hq hs
  obtain ⟨n, hn⟩ : ∃ n, n = d.length := ⟨_, rfl⟩
  rw [← hn] at HBL HNX HST HEN hmx ⊢
  have HN := hide hn
  obtain ⟨S, hS⟩ : ∃ S, S = BA d := ⟨_, rfl⟩
  rw [← hS]
  have hSn : S.size = n := by rw [hS, hn]; rfl
  have HEX : Hid (∀ done k, S.extract done (done + k) = BA ((d.drop done).take k)) := hide (fun done k => by rw [hS]; exact extract_take (BA d) done k)
  clear hn hS
  go_enter Tryz.func188, Tryz.ntmps188
  go_wp2_with fail
  go_loopw [9] (fun v wr => ∃ (done : Nat) (pf : PF) (l : BL), v = .int .i64 (done : Int) ∧ done ≤ n ∧ Hid (PX wr done pf l)) (fun v _ => n - (intOf v).toNat)
  case atStart => exact ⟨0, _, _, rfl, Nat.zero_le _, HS0⟩
  case round =>
    clear HS0
    obtain ⟨done, pf, l, rfl, hdn, HP⟩ := hrel
    by_cases hlt : done < n
    · have hlt1 : (done : Int) < (n : Int) := by omega
      have HPL := hide (place_any (a + done) wr (by omega))
      have HB := hide (unhide HBL wr done pf l (unhide HP) hlt)
      obtain ⟨k, hk⟩ : ∃ k, k = min (n - done) (64 - (a + done) % 64) := ⟨_, rfl⟩
      have HN2 := hide (fun w1 B (h : BX wr w1 done pf l B 0) => unhide HNX wr w1 done k pf l B (unhide HP) hlt (by omega) (by omega) (by omega) (by omega) h)
      have HS2 := hide (fun w1 B (h : BX wr w1 done pf l B 20) => unhide HST wr w1 done pf l B (unhide HP) hlt h)
      obtain ⟨pt, hpt⟩ : ∃ pt, pt = (a + done) / 64 := ⟨_, rfl⟩
      obtain ⟨fr, hfr⟩ : ∃ fr, fr = (a + done) % 64 := ⟨_, rfl⟩
      rw [← hpt, ← hfr] at HPL
      rw [← hpt] at HB
      rw [← hfr] at HN2 hk
      have hfr64 : fr < 64 := by omega
      obtain ⟨hi2, hhi⟩ : ∃ hi2, hi2 = done + k := ⟨_, rfl⟩
      have hmin : min (n : Int) ((done : Int) + 64 - (fr : Int)) = (hi2 : Int) := by omega
      have hle : done ≤ hi2 := by omega
      have hhn : hi2 ≤ n := by omega
      have hklen : ((d.drop done).take k).length = k := by have := unhide HN; simp; omega
      obtain ⟨pc, hpc⟩ : ∃ pc, pc = BA ((d.drop done).take k) := ⟨_, rfl⟩
      have hex : S.extract done hi2 = pc := by rw [hpc, hhi]; exact unhide HEX done k
      have hpcs : pc.size = k := by rw [hpc]; exact hklen
      rw [← hpc] at HN2
      have HHI := hide hhi
      have hk0 : 0 < k := by omega
      have hk64 : k ≤ 64 := by omega
      clear HNX HST HBL hpt hfr HEX hk hhi hklen hpc
      go_wp2_with fail
      refine (unhide HPL).mono ?_
      rintro e w1 ⟨rfl, hw1⟩
      rw [show w1 = wr from hw1]
      clear hw1
      go_wp2_with fail
      refine (unhide HB).mono ?_
      rintro e w1 ⟨B, E, rfl, H1⟩
      rcases unhide HBE _ _ _ _ _ _ _ (unhide H1) with hE | hE
      · subst hE
        obtain ⟨c1, b1⟩ := unhide HN2 w1 B (unhide H1)
        have HB1 := hide b1
        clear b1 HN2 HS2 HBE
        go_wp2_with fail
        refine (unhide HB1).mono ?_
        rintro e w2 ⟨E2, rfl, pf', l', h2⟩
        have H2 := hide h2
        clear h2
        go_wp2
        go_roundw
        case rel => exact ⟨done + k, pf', l', by go_num, by have := unhide HHI; omega, H2⟩
        case measure => have := unhide HHI; simp [intOf]; omega
      · subst hE
        have HQ := hide (unhide HS2 w1 B (unhide H1))
        clear HN2 HS2 HBE
        go_wp2
        go_ret
        exact ⟨done, rfl, hdn, HQ⟩
    · have hlt1 : ¬ (done : Int) < (n : Int) := by omega
      have HQ : Hid (QX wr done) := hide (by
        obtain rfl : done = n := by omega
        exact unhide HEN wr pf l (unhide HP))
      clear HNX HST HBL HEX HEN
      go_wp2
      go_ret
      exact ⟨done, rfl, hdn, HQ⟩

end Go.Proofs.YtemologkibcdoaaGreatDoor

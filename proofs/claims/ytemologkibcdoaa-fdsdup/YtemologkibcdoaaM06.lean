/-
  find, place; Kind, Size, Links, Tie, Hold.
  giveFrom: a node's blocks are given back, from a part on.
-/
import Derived.Test.YtemologkibcdoaaM05
import Derived.OpenShut

/- find, place; Kind, Size, Links, Tie, Hold. -/
namespace Go.Proofs.Ytemologkibcdoaa
open Go.RowKit

set_option maxRecDepth 20000 in
theorem tfind_nil (i : Int) (w : World) : Calls Try.prog 36 #[.pointer none, .int .i64 i] w fun e w' => e = .returned (.tuple #[.pointer none, .int .i64 2]) ∧ w' = w := by
  go_enter Try.func36, Try.ntmps36
  go_wp2
  go_ret2
  exact ⟨rfl, rfl⟩
set_option maxRecDepth 20000 in
set_option maxHeartbeats 1000000 in
theorem tfind_none {w : World} {p : Nat} {L : Lay} {T : TB} (H : TL w p L T) {i : Int} (h : ndAt T i = none) (hb : -9223372036854775808 ≤ i ∧ i ≤ 9223372036854775807) :
    Calls Try.prog 36 #[.pointer (some ⟨p, 0, none⟩), .int .i64 i] w fun e w' => e = .returned (.tuple #[.pointer none, .int .i64 23]) ∧ w' = w := by
  have q0 := H.tab.cell 0 rfl
  have hmx := H.row.max
  have hq : (ndAt T i = none) := h
  obtain ⟨cs, k2, h3, h4, h5, h6⟩ := H.row.lies
  have hc := ndAt_none h
  obtain ⟨n, hn⟩ : ∃ n, n = T.length := ⟨_, rfl⟩
  rw [← hn] at q0 hmx hc h4
  clear h H hq
  rcases hc with h1 | h1 | ⟨k, rfl, hk, hkn⟩
  · clear hn h6 k2
    go_enter Try.func36, Try.ntmps36
    go_wp2
    go_ret2
    exact ⟨rfl, rfl⟩
  · clear hn h6 k2
    have h0 : ¬ i < 1 := by omega
    go_enter Try.func36, Try.ntmps36
    go_wp2
    go_ret2
    exact ⟨rfl, rfl⟩
  · have c2 := k2.cell k (h6 k none hk)
    change w.cell? _ = some (.pointer none) at c2
    clear hn h6 k2 hk
    have h0 : (k : Int) < (n : Int) := by omega
    go_enter Try.func36, Try.ntmps36
    go_wp2
    go_ret2
    exact ⟨rfl, rfl⟩
set_option maxRecDepth 20000 in
set_option maxHeartbeats 1000000 in
theorem tfind_some {w : World} {p : Nat} {L : Lay} {T : TB} (H : TL w p L T) {k : Nat} {x : Nd} (hk : T[k]? = some (some x)) :
    Calls Try.prog 36 #[.pointer (some ⟨p, 0, none⟩), .int .i64 ((k : Int) + 1)] w fun e w' => e = .returned (.tuple #[.pointer (some ⟨L.q k, 0, none⟩), .int .i64 0]) ∧ w' = w := by
  have q0 := H.tab.cell 0 rfl
  have hmx := H.row.max
  obtain ⟨cs, k2, h3, h4, h5, h6⟩ := H.row.lies
  have hkn := (List.getElem?_eq_some_iff.1 hk).1
  have c2 := k2.cell k (h6 k _ hk)
  change w.cell? _ = some (.pointer (some ⟨L.q k, 0, none⟩)) at c2
  obtain ⟨n, hn⟩ : ∃ n, n = T.length := ⟨_, rfl⟩
  rw [← hn] at q0 hmx hkn h4
  obtain ⟨q, hq⟩ : ∃ q, q = L.q k := ⟨_, rfl⟩
  rw [← hq] at c2 ⊢
  have h0 : (k : Int) < (n : Int) := by omega
  clear hn h6 k2 hk H hq
  go_enter Try.func36, Try.ntmps36
  go_wp2
  go_ret2
  exact ⟨rfl, rfl⟩

/-- A cell of a node's own turns. -/
theorem TL.cellTL {w : World} {p : Nat} {L : Lay} {T : TB} (H : TL w p L T) {k c : Nat} {x x' : Nd} (hk : T[k]? = some (some x)) {v : Value}
    (hb : Blk (w.setCell ⟨L.q k, c, none⟩ v) (L.q k) 112 #[.int .i64 (x'.names : Int), .int .i64 (x'.users : Int), .int .i64 (x'.kind : Int), .int .i64 (x'.size : Int), .map (some (L.m k))]) (hh : x'.has = x.has) (hy : x'.byt = x.byt) :
    TL (w.setCell ⟨L.q k, c, none⟩ v) p { L with pf := updF L.pf k (L.pf k), l := L.l } (T.set k (some x')) := by
  have hg : GrownS w (w.setCell ⟨L.q k, c, none⟩ v) (fun j => j = L.q k) := GrownS.of (grown_setCell w ⟨L.q k, c, none⟩ v) (fun j e => by simpa using e)
  have n1 := H.ne hk
  obtain ⟨D, d1, d2⟩ := (H.node k x hk).own
  exact H.step hk (x' := x') (pf' := L.pf k) (l' := L.l) hg (fun j _ e => .inl e) (H.store.grownS hg n1.1.2.2.1.symm n1.1.2.2.2.1.symm n1.1.2.2.2.2.symm) ⟨hb, D, ownsMap_grownS d1 hg (H.qm hk hk).symm, d2⟩ (fun j => by rw [hh]; exact H.has k x hk j) (H.part k x hk)
    (fun a a' b h1 h2 => (H.one k k x x hk hk a a' b h1 h2).2) (fun j y a b hj hy2 hp => ⟨fun a' h2 => hj (H.one j k y x hy2 hk a a' b hp h2).1, rfl⟩) (fun j => by rw [hy]; exact H.byte k x hk j) (by rw [hh]) rfl
theorem TL.cellTurn {w : World} {p nb : Nat} {L : Lay} {T : TB} {X : Nat → Prop} (H : TL w p L T) (hin : L.In T p X) (hnb : L.l.length = nb) {k c : Nat} {x x' : Nd} (hk : T[k]? = some (some x)) {v : Value}
    (hb : Blk (w.setCell ⟨L.q k, c, none⟩ v) (L.q k) 112 #[.int .i64 (x'.names : Int), .int .i64 (x'.users : Int), .int .i64 (x'.kind : Int), .int .i64 (x'.size : Int), .map (some (L.m k))]) (hh : x'.has = x.has) (hy : x'.byt = x.byt) :
    TAt (w.setCell ⟨L.q k, c, none⟩ v) p X (T.set k (some x')) nb ∧ GrownS w (w.setCell ⟨L.q k, c, none⟩ v) X := by
  have hg : GrownS w (w.setCell ⟨L.q k, c, none⟩ v) (fun j => j = L.q k) := GrownS.of (grown_setCell w ⟨L.q k, c, none⟩ v) (fun j e => by simpa using e)
  exact ⟨⟨_, H.cellTL hk hb hh hy, hin.step hk _ _ _, hnb⟩, hg.mono (fun j _ e => by rw [show j = L.q k from e]; exact (hin.each k x hk).1)⟩
set_option maxRecDepth 20000 in
theorem ttie_nil (i : Int) (w : World) : Calls Try.prog 32 #[.pointer none, .int .i64 i] w fun e w' => e = .returned (.int .i64 2) ∧ w' = w := by
  go_enter Try.func32, Try.ntmps32
  go_wp2_with fail
  refine (tfind_nil i w).mono ?_
  rintro e w1 ⟨rfl, hw1⟩
  rw [show w1 = w from hw1]
  clear hw1
  go_wp2
  go_ret
  exact ⟨rfl, rfl⟩
set_option maxRecDepth 20000 in
set_option maxHeartbeats 1000000 in
theorem ttie_any {w : World} {p nb : Nat} {X : Nat → Prop} {T : TB} (H : TAt w p X T nb) (i : Int) (hb : -9223372036854775808 ≤ i ∧ i ≤ 9223372036854775807) (hm : ∀ (k : Nat) (x : Nd), T[k]? = some (some x) → x.names ≤ 1000000) : Calls Try.prog 32 #[.pointer (some ⟨p, 0, none⟩), .int .i64 i] w fun e w' => e = .returned (.int .i64 (tieE T i)) ∧ TAt w' p X (tieT T i) nb ∧ GrownS w w' X := by
  obtain ⟨L, HL, hin, hnb⟩ := H
  unfold tieE tieT
  cases hx : ndAt T i with
  | none =>
    have HF := hide (tfind_none HL hx hb)
    have HE : Hid (TAt w p X T nb ∧ GrownS w w X) := hide ⟨⟨L, HL, hin, hnb⟩, grownS_of_below (Below.refl _ _)⟩
    clear HL hx hin
    go_enter Try.func32, Try.ntmps32
    go_wp2_with fail
    refine (unhide HF).mono ?_
    rintro e w1 ⟨rfl, hw1⟩
    rw [show w1 = w from hw1]
    clear hw1
    go_wp2
    go_ret
    exact ⟨rfl, unhide HE⟩
  | some x =>
    obtain ⟨k, rfl, hk, _⟩ := ndAt_some hx
    rw [plc_of]
    have HF := hide (tfind_some HL hk)
    have hn := HL.node k x hk
    have c := hn.blk.cell 0 rfl
    have f := hn.blk.frozen 0
    have hm1 := hm k x hk
    change _ = some (Value.int .i64 (x.names : Int)) at c
    have HE : Hid (TAt (w.setCell ⟨L.q k, 0, none⟩ (.int .i64 ((x.names : Int) + 1))) p X (T.set k (some (tieN x))) nb ∧ GrownS w (w.setCell ⟨L.q k, 0, none⟩ (.int .i64 ((x.names : Int) + 1))) X) := hide (by
      exact HL.cellTurn hin hnb hk (c := 0) (x' := tieN x) (hn.blk.set 0 _) rfl rfl)
    obtain ⟨q, hq⟩ : ∃ q, q = L.q k := ⟨_, rfl⟩
    rw [← hq] at c f HF HE
    obtain ⟨n, hn2⟩ : ∃ n, n = x.names := ⟨_, rfl⟩
    rw [← hn2] at c hm1 HE
    clear HL hx hk hq hin hn hm hn2
    go_enter Try.func32, Try.ntmps32
    go_wp2_with fail
    refine (unhide HF).mono ?_
    rintro e w1 ⟨rfl, hw1⟩
    rw [show w1 = w from hw1]
    clear hw1
    go_wp2
    go_ret
    exact ⟨rfl, unhide HE⟩
end Go.Proofs.Ytemologkibcdoaa

/- giveFrom: a node's blocks are given back, from a part on. -/
namespace Go.Proofs.Ytemologkibcdoaa
open Go.RowKit Go.Maps

theorem GrownS.after {w w1 w2 : World} {S S' : Nat → Prop} (h : GrownS w w1 S) (h2 : GrownS w1 w2 S') (hs : ∀ k, k < w.heap.size → S' k → S k) : GrownS w w2 S :=
  ⟨h2.os.trans h.os, h2.tape.trans h.tape, h2.output.trans h.output, Nat.le_trans h.size h2.size, fun k hk hn => (h2.block k (Nat.lt_of_lt_of_le hk h.size) (fun e => hn (hs k hk e))).trans (h.block k hk hn)⟩
theorem isKey (a : Int) : WideAt.IsKeyLit (.int .i64 a) := trivial
theorem ownsMap_tight {w : World} {b n : Nat} {D : DataW Unit} (h : w.ownsMap Try.prog 3 PE b n D) : w.ownsMap Try.prog 3 PE b (Maps.size D) D := by
  obtain ⟨es, clock, hb, F, _, rfl⟩ := h
  exact ⟨es, clock, hb, F, by simp [Maps.size, length_sorted], rfl⟩
theorem ranges_grownS {w w' : World} {S : Nat → Prop} {b r n cn : Nat} {D : DataW Unit} {left : Lit → Bool} (h : w.ranges Try.prog 3 PE b r n D left cn) (hg : GrownS w w' S) (hb : ¬ S b) (hr : ¬ S r) : w'.ranges Try.prog 3 PE b r n D left cn := by
  have h1 := h.owns.lt
  have h2 := h.lt
  obtain ⟨es, clock, since, seen, c0, k1, k2, k3, k4, k5, k6⟩ := h
  exact ⟨es, clock, since, seen, c0, (hg.block b h1 hb).trans k1, k2, k3, k4, (hg.block r h2 hr).trans k5, k6⟩
theorem Reads.key {D : DataW Unit} {pf : PF} (h : Reads D pf) {x c : Int} (hat : ∀ zd, D.atKey (.int .i64 x) zd = .lit (.int .i64 c)) : ∃ k b : Nat, x = (k : Int) ∧ pf k = some b ∧ c = (b : Int) + 1 ∧ k < 64 := by
  have h1 := has_true_of_atKey hat
  rw [h.has] at h1
  simp only [Bool.and_eq_true, decide_eq_true_eq] at h1
  obtain ⟨b, hb⟩ := Option.isSome_iff_exists.1 h1.2
  refine ⟨x.toNat, b, by omega, hb, ?_, h.few _ h1.2⟩
  have h2 := h.at' _ _ hb (.lit (.int .i64 0))
  rw [show ((x.toNat : Nat) : Int) = x by omega, hat] at h2
  injection h2 with h2
  injection h2
def pdel (pf : PF) (k : Nat) : PF := fun j => if j = k then none else pf j
def pput (pf : PF) (k b : Nat) : PF := fun j => if j = k then some b else pf j
theorem key_ne {a b : Int} (h : a ≠ b) : Lit.int .i64 a ≠ Lit.int .i64 b := fun e => h (by injection e)
theorem isS_del (pf : PF) (k : Nat) : isS (pdel pf k) = fun j => if j = k then false else isS pf j := by
  funext j
  unfold isS pdel
  split <;> rfl
theorem isS_put (pf : PF) (k b : Nat) : isS (pput pf k b) = fun j => if j = k then true else isS pf j := by
  funext j
  unfold isS pput
  split <;> rfl
theorem Reads.del {D : DataW Unit} {pf : PF} (h : Reads D pf) {k b : Nat} (hb : pf k = some b) : Reads (D.del (.int .i64 (k : Int))) (pdel pf k) := by
  have hk : isS pf k = true := by unfold isS; rw [hb]; rfl
  refine ⟨h.isMap.del _, h.tidy.del _, fun j => ?_, fun j c hj z => ?_, ?_, fun j hj => ?_⟩
  · by_cases e : j = (k : Int)
    · subst e
      rw [has_del_same, isS_del]
      simp
    · rw [has_del_other (key_ne e), h.has, isS_del]
      by_cases h0 : 0 ≤ j
      · show _ = (_ && (if j.toNat = k then false else isS pf j.toNat))
        rw [show (if j.toNat = k then false else isS pf j.toNat) = isS pf j.toNat from if_neg (by omega)]
      · simp [h0]
  · unfold pdel at hj
    split at hj
    · cases hj
    · rw [atKey_del_other (key_ne (by omega))]
      exact h.at' j c hj z
  · have h1 := size_del (k := .int .i64 (k : Int)) h.tidy
    have hh : Maps.has D (.int .i64 (k : Int)) = true := by rw [h.has]; simp [hk]
    rw [hh, if_pos rfl, h.size] at h1
    have h2 := cnt_upd (isS pf) k false (h.few k hk)
    rw [hk, if_pos rfl, if_neg (by decide)] at h2
    rw [isS_del]
    omega
  · rw [isS_del] at hj
    dsimp only at hj
    split at hj
    · cases hj
    · exact h.few j hj
theorem Reads.put {D : DataW Unit} {pf : PF} (h : Reads D pf) {k : Nat} (b : Nat) (hk : pf k = none) (hk64 : k < 64) : Reads (D.put (.int .i64 (k : Int)) (.lit (.int .i64 ((b : Int) + 1)))) (pput pf k b) := by
  have hs : isS pf k = false := by unfold isS; rw [hk]; rfl
  refine ⟨h.isMap.put _ _, h.tidy.put (isKey _) _, fun j => ?_, fun j c hj z => ?_, ?_, fun j hj => ?_⟩
  · by_cases e : j = (k : Int)
    · subst e
      rw [has_put_same h.isMap (isKey _), isS_put]
      simp
    · rw [has_put_other (key_ne e), h.has, isS_put]
      by_cases h0 : 0 ≤ j
      · show _ = (_ && (if j.toNat = k then true else isS pf j.toNat))
        rw [show (if j.toNat = k then true else isS pf j.toNat) = isS pf j.toNat from if_neg (by omega)]
      · simp [h0]
  · unfold pput at hj
    split at hj
    · rename_i e
      subst e
      injection hj with hj
      subst hj
      exact atKey_put_same h.isMap (isKey _) _ _
    · rw [atKey_put_other (key_ne (by omega))]
      exact h.at' j c hj z
  · have h1 := size_put (k := .int .i64 (k : Int)) h.tidy (.lit (.int .i64 ((b : Int) + 1)))
    have hh : Maps.has D (.int .i64 (k : Int)) = false := by rw [h.has]; simp [hs]
    rw [hh, if_neg (by decide), h.size] at h1
    have h2 := cnt_upd (isS pf) k true hk64
    rw [hs, if_pos rfl, if_neg (by decide)] at h2
    rw [isS_put]
    omega
  · rw [isS_put] at hj
    dsimp only at hj
    split at hj
    · omega
    · exact h.few j hj
theorem freeN_set {l : BL} {b : Nat} {y : List UInt8} (h : l[b]? = some y) (z : List UInt8) : freeN (l.set b z) + (if y.isEmpty then 1 else 0) = freeN l + (if z.isEmpty then 1 else 0) := by
  unfold freeN
  induction l generalizing b with
  | nil => simp at h
  | cons a l ih =>
    cases b with
    | zero =>
      simp at h
      subst h
      simp only [List.set_cons_zero, List.countP_cons]
      omega
    | succ b =>
      simp at h
      have := ih h
      simp only [List.set_cons_succ, List.countP_cons]
      omega
/-- A part loses its block. -/
def xdel (x : Nd) (k : Nat) : Nd := { x with has := fun j => if j = k then false else x.has j, byt := fun j => if j / 64 = k then 0 else x.byt j }
theorem TL.gave {w w' : World} {p : Nat} {L : Lay} {T : TB} (H : TL w p L T) {i : Nat} {x : Nd} (hi : T[i]? = some (some x)) {kk b : Nat} (hb : L.pf i kk = some b) (hg : GrownS w w' (fun k => k = L.m i ∨ k = L.gs ∨ k = L.hs))
    (hst : BAt w' L.s L.gs L.hs (L.l.set b [])) (hn : NAt w' (L.q i) (L.m i) (xdel x kk) (pdel (L.pf i) kk)) :
    TL w' p { L with pf := updF L.pf i (pdel (L.pf i) kk), l := L.l.set b [] } (T.set i (some (xdel x kk))) := by
  obtain ⟨D, d1, d2⟩ := (H.node i x hi).own
  obtain ⟨y, hy, hyn⟩ := H.part i x hi kk b hb
  have hk : isS (L.pf i) kk = true := by unfold isS; rw [hb]; rfl
  have ho : ∀ j c, pdel (L.pf i) kk j = some c → j ≠ kk ∧ L.pf i j = some c ∧ c ≠ b := fun j c hj => by
    unfold pdel at hj
    split at hj
    · cases hj
    · rename_i hne
      exact ⟨hne, hj, fun e => hne (by subst e; exact (H.one i i x x hi hi j kk c hj hb).2)⟩
  refine H.step hi hg (fun k _ e => .inr e) hst hn (fun k => ?_) (fun k c hc => ?_) (fun k k' c h1 h2 => ?_) (fun j z k c hj hz hc => ⟨fun k' h2 => ?_, ?_⟩) (fun j => ?_) ?_ (by simp)
  · rw [isS_del]
    show (if k = kk then false else x.has k) = if k = kk then false else isS (L.pf i) k
    rw [H.has i x hi k]
  · obtain ⟨_, h2, h3⟩ := ho k c hc
    rw [List.getElem?_set, if_neg (fun e => h3 e.symm)]
    exact H.part i x hi k c h2
  · exact (H.one i i x x hi hi k k' c (ho k c h1).2.1 (ho k' c h2).2.1).2
  · exact hj (H.one j i z x hz hi k k' c hc (ho k' c h2).2.1).1
  · rw [List.getElem?_set, if_neg]
    intro e
    subst e
    exact hj (H.one j i z x hz hi k kk b hc hb).1
  · show (if j / 64 = kk then 0 else x.byt j) = byteOf (L.l.set b []) (pdel (L.pf i) kk) j
    unfold byteOf
    by_cases e : j / 64 = kk
    · rw [if_pos e, show pdel (L.pf i) kk (j / 64) = none from if_pos e]
    · rw [if_neg e, H.byte i x hi j]
      unfold byteOf
      rw [show pdel (L.pf i) kk (j / 64) = L.pf i (j / 64) from if_neg e]
      cases hc : L.pf i (j / 64) with
      | none => rfl
      | some c =>
        show bAt L.l c _ = bAt (L.l.set b []) c _
        have hcb : c ≠ b := fun e2 => e (by subst e2; exact (H.one i i x x hi hi _ kk c hc hb).2)
        rw [bAt_set (List.getElem?_eq_some_iff.1 hy).1, if_neg hcb]
  · have h1 := freeN_set hy []
    have h2 := cnt_upd x.has kk false (d2.few kk hk)
    have h3 := H.has i x hi kk
    rw [hk] at h3
    rw [h3] at h2
    have h4 : y.isEmpty = false := by cases y with | nil => exact absurd rfl hyn | cons _ _ => rfl
    rw [h4] at h1
    rw [if_neg (by decide), if_pos (by rfl)] at h1
    rw [if_pos rfl, if_neg (by decide)] at h2
    show freeN (L.l.set b []) + cnt (fun j => if j = kk then false else x.has j) = _
    omega
/-- What is left of a node when only some parts keep their blocks. -/
def xkeep (x : Nd) (keep : Nat → Bool) : Nd := { x with has := fun j => x.has j && keep j, byt := fun j => if keep (j / 64) then x.byt j else 0 }
theorem xkeep_del (x : Nd) (keep : Nat → Bool) (k : Nat) : xdel (xkeep x keep) k = xkeep x (fun j => if j = k then false else keep j) := by
  unfold xdel xkeep
  congr 1
  · funext j
    dsimp only
    split <;> simp
  · funext j
    dsimp only
    split <;> rename_i h <;> simp [h]
theorem TL.xkeep_all {w : World} {p : Nat} {L : Lay} {T : TB} (H : TL w p L T) {i : Nat} {x : Nd} (hi : T[i]? = some (some x)) {keep : Nat → Bool} (hk : ∀ j, x.has j = true → keep j = true) : xkeep x keep = x := by
  unfold xkeep
  cases hx : x with
  | mk kind names users size byt has =>
    subst hx
    congr 1
    · funext j
      dsimp only
      split
      · rfl
      · rename_i h
        have h2 := H.byte i _ hi j
        have h3 := H.has i _ hi (j / 64)
        dsimp only at h2 h3
        rw [h2]
        unfold byteOf
        cases hc : L.pf i (j / 64) with
        | none => rfl
        | some c =>
          unfold isS at h3
          rw [hc] at h3
          exact absurd (hk (j / 64) h3) h
    · funext j
      dsimp only
      cases h : has j with
      | false => rfl
      | true => rw [hk j h]; rfl
theorem keyI {a : Int} (h : (Lit.int .i64 a).wf = true) : keyOf Try.prog 3 (.int .i64 a) = some (.int .i64 a) := keyOf_int_mk Try.underlying3 h
theorem updF_twice (f : Nat → PF) (i : Nat) (a b : PF) : updF (updF f i a) i b = updF f i b := by
  funext j
  unfold updF
  split <;> rfl
theorem set_self {T : TB} {i : Nat} {o : Option Nd} (h : T[i]? = some o) : T.set i o = T := by
  apply List.ext_getElem?
  intro j
  rw [List.getElem?_set]
  split
  · rename_i e
    subst e
    rw [if_pos (List.getElem?_eq_some_iff.1 h).1, h]
  · rfl
theorem updF_self (f : Nat → PF) (i : Nat) : updF f i (f i) = f := by
  funext j
  unfold updF
  split
  · rename_i e; rw [e]
  · rfl

/-- How far giveFrom is. -/
structure GF (w wr : World) (p : Nat) (L : Lay) (T : TB) (i : Nat) (x : Nd) (part n : Nat) (left : Lit → Bool) (cn : Nat) (pf : PF) (l : BL) (D : DataW Unit) : Prop where
  tl : TL wr p { L with pf := updF L.pf i pf, l := l } (T.set i (some (xkeep x (fun j => decide (part ≤ j) == false || left (.int .i64 (j : Int))))))
  rg : wr.ranges Try.prog 3 PE (L.m i) w.heap.size n D left cn
  rd : Reads D pf
  len : l.length = L.l.length
  gr : GrownS w wr (fun k => k = L.m i ∨ k = L.gs ∨ k = L.hs)

end Go.Proofs.Ytemologkibcdoaa

/-
  Numbers of open files: drop.
  What every state of open things keeps to is kept.
-/
import Derived.Test.YtemologkibcdoaaGreatDoorM33

/- Numbers of open files: drop. -/
namespace Go.Proofs.YtemologkibcdoaaGreatDoor
open Go.RowKit Go.Maps

theorem numL_at {l : List (Option Nat)} {fd : Nat} {o : Option Nat} (h : fd < 16) (hf : l[fd]? = some o) : numL l (fd : Int) = o := by
  unfold numL
  rw [if_pos (fdOk_iff.2 ⟨by omega, by omega⟩), show (fd : Int).toNat = fd by omega, hf]
  rfl
theorem close_st (A : AS) (i : Nat) : (closeA A i).st = A.st := by
  unfold closeA
  split
  · rfl
  · rename_i t _
    obtain ⟨wh, m⟩ := t
    cases wh <;> simp only [closeW, setWh, setPp]
    all_goals split <;> rfl
theorem open_close (A : AS) (i : Nat) : openA (closeA A i) = openA A := by
  unfold closeA
  split
  · rfl
  · rename_i t ht
    obtain ⟨wh, m⟩ := t
    cases wh with
    | file y => exact open_wh ht _
    | rd p => simp only [closeW, setPp]; split <;> rfl
    | wr p => simp only [closeW, setPp]; split <;> rfl
    | tape s => rfl
    | sink k => rfl
theorem drop_is {A : AS} {k i fd : Nat} {l : List (Option Nat)} {t : Th} (hl : A.st[k]? = some l) (hfd : fd < 16) (hf : l[fd]? = some (some i)) (ht : A.th[i]? = some t) : dropA A k (fd : Int) = if t.many = 1 then closeA (manyA (putA A k (fd : Int) none) i 0) i else manyA (putA A k (fd : Int) none) i (t.many - 1) := by
  unfold dropA
  rw [row_at hl, numL_at hfd hf]
  dsimp only
  rw [ht]
theorem many_get {A : AS} {i : Nat} {t : Th} (ht : A.th[i]? = some t) (m : Nat) : (manyA A i m).th[i]? = some ⟨t.wh, m⟩ := by
  rw [manyA_th ht]
  exact List.getElem?_set_self (List.getElem?_eq_some_iff.1 ht).1
theorem wh_many {A : AS} (i m : Nat) {y : Wh} (h : WhOk A y) : WhOk (manyA A i m) y := by
  unfold manyA
  split <;> cases y <;> exact h
theorem wh_put {A : AS} (k : Nat) (fd : Int) (o : Option Nat) {y : Wh} (h : WhOk A y) : WhOk (putA A k fd o) y := by
  cases y <;> exact h
theorem open_pos {A : AS} {i : Nat} {t : Th} (ht : A.th[i]? = some t) (h : 1 ≤ t.many) : 1 ≤ openA A := by
  unfold openA
  exact List.countP_pos_iff.2 ⟨t, List.mem_of_getElem? ht, by simp; omega⟩
theorem drop_open {A : AS} {k i fd : Nat} {l : List (Option Nat)} {t : Th} (hl : A.st[k]? = some l) (hfd : fd < 16) (hf : l[fd]? = some (some i)) (ht : A.th[i]? = some t) (h1 : 1 ≤ t.many) : openA (dropA A k (fd : Int)) = openA A - (if t.many = 1 then 1 else 0) := by
  rw [drop_is hl hfd hf ht]
  have ht2 : (putA A k (fd : Int) none).th[i]? = some t := ht
  split
  · rename_i h
    have := open_many ht2 0
    rw [open_put, if_pos (by omega), if_neg (by omega)] at this
    rw [open_close]
    omega
  · rename_i h
    have := open_many ht2 (t.many - 1)
    rw [open_put, if_pos (by omega), if_pos (by omega)] at this
    omega
set_option maxRecDepth 20000 in
set_option maxHeartbeats 4000000 in
theorem fdrop_any {w : World} {f q nb n x : Nat} {B : Bas} {Z : Nat → Prop} {A : AS} {sb : List Nat} {H : Hp} {L : Fay} (F : FH w f q Z A nb n B x sb H L) {k b : Nat} {l : List (Option Nat)} (hb : sb[k]? = some b) (hl : A.st[k]? = some l) {fd i : Nat} {t : Th} (hfd : fd < 16) (hf : l[fd]? = some (some i)) (ht : A.th[i]? = some t) (hw : WhOk A t.wh) (h1 : 1 ≤ t.many) (hm : t.many ≤ 1000000) (ho : openA A ≤ 1000000) (hn : n ≤ 9000) : Calls Tryz.prog 35 #[.pointer (some ⟨b, 0, none⟩), .int .i64 (fd : Int)] w fun e w' => e = .returned (.tuple #[]) ∧ Hid (∃ H', FH w' f q Z (dropA A k (fd : Int)) nb (n + 1) B x sb H' L) := by
  obtain ⟨n1, n2, n3⟩ := F.nes hb hl ht
  obtain ⟨a3, c3, f3⟩ := F.thCell ht
  obtain ⟨c0, c1, f1, _, hl16⟩ := F.setCell hb hl
  have d1 := c1 fd hfd
  rw [hf] at d1
  replace d1 : w.cell? ⟨b, 1 + fd, none⟩ = some (.pointer (some ⟨L.tb i, 0, none⟩)) := d1
  have g3 := f3 1
  have g1 := f1 (1 + fd)
  have hop := open_pos ht h1
  have hDI := drop_is hl hfd hf ht
  have hDO := drop_open hl hfd hf ht h1
  have ht2 : (putA A k (fd : Int) none).th[i]? = some t := ht
  have q1 : IntKind.i64.wrap ((t.many : Int) - 1) = ((t.many - 1 : Nat) : Int) := by rw [IntKind.wrap_i64]; omega
  have q2 : IntKind.i64.wrap ((openA A : Int) - 1) = ((openA A - 1 : Nat) : Int) := by rw [IntKind.wrap_i64]; omega
  have hfd1 : (fd : Int) < 16 := by omega
  have hfd0 : (0 : Int) ≤ (fd : Int) := by omega
  have hst : ∀ m, (manyA (putA A k (fd : Int) none) i m).st[k]? = some (l.set fd none) := fun m => by
    rw [(row_many _ i m).1]
    unfold putA
    rw [row_at hl, show (fd : Int).toNat = fd by omega]
    exact List.getElem?_set_self (List.getElem?_eq_some_iff.1 hl).1
  have P1 := F.put hb hl fd none
  obtain ⟨M2, L2⟩ := FH.many P1.mx P1.li ht2 (t.many - 1)
  rw [open_put] at L2
  have hs2 : (putA A k (fd : Int) none).s = (manyA (putA A k (fd : Int) none) i (t.many - 1)).s := (row_many _ i _).2.symm
  by_cases h0 : t.many = 1
  · rw [if_pos h0] at hDI hDO
    rw [show t.many - 1 = 0 by omega] at M2 L2 q1 hs2
    have e0 : (((0 : Nat) : Int) == 0) = true := rfl
    rw [hs2] at M2
    have hC := close_any M2 L2 hn (many_get ht2 0) (wh_many i 0 (wh_put k (fd : Int) none hw))
    have HB : Hid (∀ w', (∃ H', MX w' f q Z (closeA (manyA (putA A k (fd : Int) none) i 0) i).s nb (n + 1) B H' ∧ Lies H' f x L sb (closeA (manyA (putA A k (fd : Int) none) i 0) i) (openA A)) → w'.cell? ⟨b, 0, none⟩ = some (.pointer (some ⟨x, 0, none⟩)) ∧ w'.cell? ⟨x, 1, none⟩ = some (.int .i64 (openA A : Int)) ∧ w'.frozen? ⟨x, 1, none⟩ = false ∧ Hid (∃ H', FH (w'.setCell ⟨x, 1, none⟩ (.int .i64 ((openA A - 1 : Nat) : Int))) f q Z (dropA A k (fd : Int)) nb (n + 1) B x sb H' L)) := hide (fun w' hh => by
      obtain ⟨H', m1, m2⟩ := hh
      obtain ⟨v, b1, _⟩ := m2.fil
      have b2 := (m2.st k b (l.set fd none) hb (by rw [close_st]; exact hst 0)).1
      have b3 := m1.blk _ _ b1
      have b4 := m1.blk _ _ b2
      obtain ⟨H2, m3, m4⟩ := FH.cnt m1 m2 (openA A - 1)
      rw [← hDI] at m3 m4
      rw [← hDO] at m4
      exact ⟨b4.cell 0 rfl, b3.cell 1 rfl, b3.frozen 1, hide ⟨H2, m3, m4⟩⟩)
    obtain ⟨o1, ho1⟩ : ∃ o1, o1 = ((openA A - 1 : Nat) : Int) := ⟨_, rfl⟩
    obtain ⟨o, hoo⟩ : ∃ o, o = ((openA A : Nat) : Int) := ⟨_, rfl⟩
    obtain ⟨m, hmm⟩ : ∃ m, m = ((t.many : Nat) : Int) := ⟨_, rfl⟩
    rw [← ho1] at q2 HB
    rw [← hoo] at q2 HB
    rw [← hmm] at q1 c3
    obtain ⟨AA, hAA⟩ : ∃ AA, AA = closeA (manyA (putA A k (fd : Int) none) i 0) i := ⟨_, rfl⟩
    obtain ⟨AD, hAD⟩ : ∃ AD, AD = dropA A k (fd : Int) := ⟨_, rfl⟩
    obtain ⟨co, hco⟩ : ∃ co, co = openA A := ⟨_, rfl⟩
    rw [← hAA] at hC HB
    rw [← hAD] at HB ⊢
    rw [← hco] at hC HB
    clear F P1 M2 L2 hDI hDO hst hs2 c1 f1 f3 hop hm ho h1 h0 ho1 hoo hmm hf hl ht ht2 hw hl16 hAA hAD hco
    obtain ⟨wh, mm⟩ := t
    rw [numV_none] at hC
    cases wh <;> simp only [clF, recV, ptrV, itf] at hC a3
    all_goals
      have HC := hide hC
      clear hC
      go_enter Tryz.func35, Tryz.ntmps35
      go_wp2_with fail
      refine (unhide HC).mono ?_
      rintro e w1 ⟨rfl, h1⟩
      obtain ⟨r1, r2, r3, r4⟩ := unhide HB w1 (unhide h1)
      clear h1 HC HB
      go_wp2_with fail
      refine bodyPost_end (res0 rfl _ _) rfl ?_
      exact ⟨rfl, r4⟩
  · rw [if_neg h0] at hDI hDO
    have e0 : (((t.many - 1 : Nat) : Int) == 0) = false := by simp; omega
    have HF : Hid (∃ H', FH ((w.setCell ⟨b, 1 + fd, none⟩ (.pointer none)).setCell ⟨L.tb i, 1, none⟩ (.int .i64 ((t.many - 1 : Nat) : Int))) f q Z (dropA A k (fd : Int)) nb (n + 1) B x sb H' L) := hide (by
      rw [Nat.sub_zero] at hDO
      rw [hs2, ← hDI] at M2
      rw [← hDI, ← hDO] at L2
      exact ⟨_, M2.mono (Nat.le_succ _), L2⟩)
    obtain ⟨m1, hm1⟩ : ∃ m1, m1 = ((t.many - 1 : Nat) : Int) := ⟨_, rfl⟩
    obtain ⟨m, hmm⟩ : ∃ m, m = ((t.many : Nat) : Int) := ⟨_, rfl⟩
    rw [← hm1] at q1 HF e0
    rw [← hmm] at q1 c3
    clear F P1 M2 L2 hDI hDO hst hs2 c1 f1 f3 hop hm ho h1 h0 hm1 hmm hf hl ht ht2 hw hl16 q2 a3
    go_enter Tryz.func35, Tryz.ntmps35
    go_wp2
    refine bodyPost_end (res0 rfl _ _) rfl ?_
    exact ⟨rfl, HF⟩

end Go.Proofs.YtemologkibcdoaaGreatDoor

/- What every state of open things keeps to is kept. -/
namespace Go.Proofs.YtemologkibcdoaaGreatDoor
open Go.RowKit Go.Maps

theorem AOk.mono {A : AS} {n m : Nat} (h : AOk A n) (hm : n ≤ m) : AOk A m := ⟨h.row, h.cnt, Nat.le_trans h.len hm, fun i t ht => Nat.le_trans (h.few i t ht) hm, Nat.le_trans h.sks hm, fun k s hs => Nat.le_trans (h.skl k s hs) (Nat.mul_le_mul_left _ hm), h.wh⟩
theorem AOk.open {A : AS} {n : Nat} (h : AOk A n) : openA A ≤ n := Nat.le_trans List.countP_le_length h.len
theorem sum_set (g : List (Option Nat) → Nat) : ∀ (L : List (List (Option Nat))) (k : Nat) (l l' : List (Option Nat)), L[k]? = some l → ((L.set k l').map g).sum + g l = (L.map g).sum + g l'
  | [], k, l, l', h => by simp at h
  | a :: L, 0, l, l', h => by
    simp at h
    subst h
    simp only [List.set_cons_zero, List.map_cons, List.sum_cons]
    omega
  | a :: L, k + 1, l, l', h => by
    have := sum_set g L k l l' (by simpa using h)
    simp only [List.set_cons_succ, List.map_cons, List.sum_cons]
    omega
theorem holds_put {A : AS} {k fd : Nat} {l : List (Option Nat)} {o : Option Nat} (hl : A.st[k]? = some l) (hf : l[fd]? = some o) (o' : Option Nat) (i : Nat) : holdsA (putA A k (fd : Int) o') i + (if o = some i then 1 else 0) = holdsA A i + (if o' = some i then 1 else 0) := by
  unfold holdsA putA
  rw [row_at hl, show (fd : Int).toNat = fd by omega]
  have h1 := sum_set (fun l => l.countP (fun o => decide (o = some i))) A.st k l (l.set fd o') hl
  have h2 := cp_set (fun o => decide (o = some i)) l fd o o' hf
  simp only [decide_eq_true_eq] at h2
  dsimp only at h1 ⊢
  omega
theorem holds_many (A : AS) (i m j : Nat) : holdsA (manyA A i m) j = holdsA A j := by
  unfold holdsA
  rw [(row_many A i m).1]
theorem many_len (A : AS) (i m : Nat) : (manyA A i m).th.length = A.th.length ∧ (manyA A i m).sk = A.sk ∧ (manyA A i m).pp = A.pp := by
  unfold manyA
  split
  · exact ⟨rfl, rfl, rfl⟩
  · exact ⟨by simp, rfl, rfl⟩
theorem rowok_put {A : AS} (h : RowOk A) {k fd : Nat} {l : List (Option Nat)} (hl : A.st[k]? = some l) {o : Option Nat} (ho : ∀ i, o = some i → i < A.th.length) : RowOk (putA A k (fd : Int) o) := by
  intro k2 l2 h2
  unfold putA at h2
  rw [row_at hl, show (fd : Int).toNat = fd by omega] at h2
  rcases get_set h2 with ⟨rfl, rfl⟩ | ⟨_, h3⟩
  · refine ⟨by simpa using (h k2 l hl).1, fun j i hj => ?_⟩
    rcases get_set hj with ⟨rfl, e⟩ | ⟨_, h4⟩
    · exact ho i e.symm
    · exact (h k2 l hl).2 j i h4
  · exact h k2 l2 h3
/-- A number is set to o, where it was o0; and thing i has m numbers. -/
theorem ok_move {A : AS} {n : Nat} (h : AOk A n) {k fd i m : Nat} {l : List (Option Nat)} {t : Th} {o0 o : Option Nat} (hl : A.st[k]? = some l) (hf : l[fd]? = some o0) (ht : A.th[i]? = some t) (ho : o = none ∨ o = some i) (ho0 : o0 = none ∨ o0 = some i) (hm : m + (if o0 = some i then 1 else 0) = t.many + (if o = some i then 1 else 0)) : AOk (putA (manyA A i m) k (fd : Int) o) (n + 1) := by
  have hil := (List.getElem?_eq_some_iff.1 ht).1
  obtain ⟨g1, g2, g3⟩ := many_len A i m
  have hl2 : (manyA A i m).st[k]? = some l := by rw [(row_many A i m).1]; exact hl
  have hth : ∀ (j : Nat) (u : Th), (putA (manyA A i m) k (fd : Int) o).th[j]? = some u → (j = i ∧ u = ⟨t.wh, m⟩) ∨ (j ≠ i ∧ A.th[j]? = some u) := fun j u hj => by
    have hj : (manyA A i m).th[j]? = some u := hj
    rw [manyA_th ht] at hj
    exact get_set hj
  have hh : ∀ j, holdsA (putA (manyA A i m) k (fd : Int) o) j + (if o0 = some j then 1 else 0) = holdsA A j + (if o = some j then 1 else 0) := fun j => by
    have := holds_put hl2 hf o j
    rw [holds_many] at this
    exact this
  have hwh : ∀ y, WhOk A y → WhOk (putA (manyA A i m) k (fd : Int) o) y := fun y hy => wh_put _ _ _ (wh_many i m hy)
  have hmn : m ≤ n + 1 := by
    have := h.few i t ht
    split at hm <;> split at hm <;> omega
  refine ⟨rowok_put (fun k2 l2 h2 => ?_) hl2 (fun j e => ?_), fun j u hj => ?_, ?_, fun j u hj => ?_, ?_, fun k s hs => ?_, fun j u hj => ?_⟩
  · rw [(row_many A i m).1] at h2
    rw [g1]
    exact h.row k2 l2 h2
  · rw [g1]
    rcases ho with ho | ho
    · rw [ho] at e; cases e
    · rw [ho] at e
      injection e with e
      rw [← e]
      exact hil
  · have := hh j
    rcases hth j u hj with ⟨rfl, rfl⟩ | ⟨hne, hu⟩
    · have := h.cnt j t ht
      show m = _
      omega
    · have h2 := h.cnt j u hu
      have e1 : ¬ o = some j := fun e => by
        rcases ho with ho | ho
        · rw [ho] at e; cases e
        · rw [ho] at e; injection e with e; exact hne e.symm
      have e2 : ¬ o0 = some j := fun e => by
        rcases ho0 with ho | ho
        · rw [ho] at e; cases e
        · rw [ho] at e; injection e with e; exact hne e.symm
      rw [if_neg e1, if_neg e2] at this
      omega
  · have := h.len
    show (manyA A i m).th.length ≤ n + 1
    omega
  · rcases hth j u hj with ⟨rfl, rfl⟩ | ⟨hne, hu⟩
    · exact hmn
    · exact Nat.le_succ_of_le (h.few j u hu)
  · show (manyA A i m).sk.length ≤ n + 1
    rw [g2]
    exact Nat.le_succ_of_le h.sks
  · have hs : (manyA A i m).sk[k]? = some s := hs
    rw [g2] at hs
    have := h.skl k s hs
    omega
  · rcases hth j u hj with ⟨rfl, rfl⟩ | ⟨hne, hu⟩
    · exact hwh _ (h.wh j t ht)
    · exact hwh _ (h.wh j u hu)
theorem many_put (A : AS) (k i m : Nat) (fd : Int) (o : Option Nat) : manyA (putA A k fd o) i m = putA (manyA A i m) k fd o := by
  cases h : A.th[i]? with
  | none =>
    have e1 : manyA A i m = A := by unfold manyA; rw [h]
    rw [e1]
    unfold manyA
    rw [show (putA A k fd o).th[i]? = none from h]
  | some t =>
    rw [manyA_th (A := A) h, manyA_th (A := putA A k fd o) (t := t) h]
    rfl
theorem ok_take {A : AS} {n : Nat} (h : AOk A n) {k fd i : Nat} {l : List (Option Nat)} {t : Th} (hl : A.st[k]? = some l) (hf : l[fd]? = some none) (ht : A.th[i]? = some t) : AOk (takeA A k (fd : Int) i) (n + 1) := by
  unfold takeA
  rw [ht]
  dsimp only
  exact ok_move h hl hf ht (.inr rfl) (.inl rfl) (by simp)
/-- What a thing is turns, and the tree. -/
theorem ok_wh {A : AS} {n : Nat} (h : AOk A n) {i : Nat} {t : Th} (ht : A.th[i]? = some t) {y : Wh} (hy : WhOk A y) (s : NS) : AOk { setWh A i y with s := s } n := by
  rw [setWh_th ht]
  have hwh : ∀ z, WhOk A z → WhOk { A with th := A.th.set i ⟨y, t.many⟩, s := s } z := fun z hz => by cases z <;> exact hz
  refine ⟨fun k l hl => ⟨(h.row k l hl).1, fun j m hj => by simpa using (h.row k l hl).2 j m hj⟩, fun j u hj => ?_, by simpa using h.len, fun j u hj => ?_, h.sks, h.skl, fun j u hj => ?_⟩
  · rcases get_set hj with ⟨rfl, rfl⟩ | ⟨_, hu⟩
    · exact h.cnt j t ht
    · exact h.cnt j u hu
  · rcases get_set hj with ⟨rfl, rfl⟩ | ⟨_, hu⟩
    · exact h.few j t ht
    · exact h.few j u hu
  · rcases get_set hj with ⟨rfl, rfl⟩ | ⟨_, hu⟩
    · exact hwh _ hy
    · exact hwh _ (h.wh j u hu)
theorem ok_tree {A : AS} {n : Nat} (h : AOk A n) (s : NS) : AOk { A with s := s } n := ⟨h.row, h.cnt, h.len, h.few, h.sks, h.skl, fun j u hj => by have := h.wh j u hj; cases hu : u.wh <;> rw [hu] at this <;> exact this⟩
theorem ok_pp {A : AS} {n : Nat} (h : AOk A n) (p : Nat) (g : Pi.Pp → Pi.Pp) : AOk (setPp A p g) n := by
  unfold setPp
  split
  · exact h
  · refine ⟨h.row, h.cnt, h.len, h.few, h.sks, h.skl, fun j u hj => ?_⟩
    have := h.wh j u hj
    cases hu : u.wh <;> rw [hu] at this
    · exact this
    · show _ < (A.pp.set _ _).length
      rw [List.length_set]; exact this
    · show _ < (A.pp.set _ _).length
      rw [List.length_set]; exact this
    · exact this
    · exact this
theorem ok_close {A : AS} {n : Nat} (h : AOk A n) (i : Nat) : AOk (closeA A i) n := by
  unfold closeA
  split
  · exact h
  · rename_i t ht
    obtain ⟨wh, m⟩ := t
    have hw := h.wh i _ ht
    cases wh with
    | file y => exact ok_wh h ht (y := .file { y with cl := true }) ⟨hw.node, hw.at'⟩ _
    | rd p => exact ok_pp h _ _
    | wr p => exact ok_pp h _ _
    | tape s => exact h
    | sink k => exact h
theorem ok_drop {A : AS} {n : Nat} (h : AOk A n) {k fd i : Nat} {l : List (Option Nat)} (hl : A.st[k]? = some l) (hfd : fd < 16) (hf : l[fd]? = some (some i)) : AOk (dropA A k (fd : Int)) (n + 1) := by
  have hi := (h.row k l hl).2 fd i hf
  obtain ⟨t, ht⟩ : ∃ t, A.th[i]? = some t := ⟨_, List.getElem?_eq_getElem hi⟩
  rw [drop_is hl hfd hf ht]
  have hpos : 1 ≤ t.many := by
    have h1 := h.cnt i t ht
    have h2 := holds_put hl hf none i
    rw [if_pos rfl, if_neg (by simp)] at h2
    omega
  have key : ∀ m, m + 1 = t.many → AOk (manyA (putA A k (fd : Int) none) i m) (n + 1) := fun m hm => by
    rw [many_put]
    exact ok_move h hl hf ht (.inl rfl) (.inr rfl) (by rw [if_pos rfl, if_neg (by simp)]; omega)
  split
  · exact ok_close (key 0 (by omega)) i
  · exact key _ (by omega)
theorem AOk.at {A : AS} {n : Nat} (h : AOk A n) {k fd i : Nat} {l : List (Option Nat)} (hl : A.st[k]? = some l) (hf : l[fd]? = some (some i)) : ∃ t, A.th[i]? = some t ∧ 1 ≤ t.many ∧ t.many ≤ n ∧ WhOk A t.wh := by
  have hi := (h.row k l hl).2 fd i hf
  obtain ⟨t, ht⟩ : ∃ t, A.th[i]? = some t := ⟨_, List.getElem?_eq_getElem hi⟩
  refine ⟨t, ht, ?_, h.few i t ht, h.wh i t ht⟩
  have h1 := h.cnt i t ht
  have h2 := holds_put hl hf none i
  rw [if_pos rfl, if_neg (by simp)] at h2
  omega
/-- A new thing. -/
theorem holds_no {A : AS} (h : RowOk A) : holdsA A A.th.length = 0 := by
  unfold holdsA
  have : ∀ L : List (List (Option Nat)), (∀ l ∈ L, l.countP (fun o => decide (o = some A.th.length)) = 0) → (L.map (fun l => l.countP (fun o => decide (o = some A.th.length)))).sum = 0 := by
    intro L hL
    induction L with
    | nil => rfl
    | cons a L ih =>
      rw [List.map_cons, List.sum_cons, hL a List.mem_cons_self, ih (fun l hl => hL l (List.mem_cons_of_mem _ hl))]
  refine this _ (fun l hl => ?_)
  rw [List.countP_eq_zero]
  intro o ho e
  obtain ⟨k, hk⟩ := List.mem_iff_getElem?.1 hl
  obtain ⟨j, hj⟩ := List.mem_iff_getElem?.1 ho
  have e : o = some A.th.length := by simpa using e
  rw [e] at hj
  exact Nat.lt_irrefl _ ((h k l hk).2 j _ hj)
theorem get_app {α : Type} {l : List α} {i : Nat} {a b : α} (h : (l ++ [a])[i]? = some b) : (i = l.length ∧ b = a) ∨ (i < l.length ∧ l[i]? = some b) := by
  rcases Nat.lt_or_ge i l.length with hi | hi
  · rw [List.getElem?_append_left hi] at h
    exact .inr ⟨hi, h⟩
  · rw [List.getElem?_append_right hi] at h
    by_cases e : i - l.length = 0
    · rw [e] at h
      simp at h
      exact .inl ⟨by omega, h.symm⟩
    · rw [List.getElem?_eq_none (by simp; omega)] at h; cases h
theorem ok_new {A : AS} {n : Nat} (h : AOk A n) {y : Wh} (hy : WhOk A y) : AOk (nwA A y) (n + 1) := by
  have hwh : ∀ z, WhOk A z → WhOk (nwA A y) z := fun z hz => by cases z <;> exact hz
  refine ⟨fun k l hl => ⟨(h.row k l hl).1, fun j m hj => ?_⟩, fun j u hj => ?_, ?_, fun j u hj => ?_, Nat.le_succ_of_le h.sks, fun k s hs => by have := h.skl k s hs; omega, fun j u hj => ?_⟩
  · have := (h.row k l hl).2 j m hj
    show m < (A.th ++ [_]).length
    simp; omega
  · rcases get_app hj with ⟨rfl, rfl⟩ | ⟨_, hu⟩
    · exact (holds_no h.row).symm
    · exact h.cnt j u hu
  · have := h.len
    show (A.th ++ [_]).length ≤ n + 1
    simp; omega
  · rcases get_app hj with ⟨rfl, rfl⟩ | ⟨_, hu⟩
    · exact Nat.zero_le _
    · exact Nat.le_succ_of_le (h.few j u hu)
  · rcases get_app hj with ⟨rfl, rfl⟩ | ⟨_, hu⟩
    · exact hwh _ hy
    · exact hwh _ (h.wh j u hu)
theorem ok_nwPp {A : AS} {n : Nat} (h : AOk A n) : AOk (nwPp A) n := ⟨h.row, h.cnt, h.len, h.few, h.sks, h.skl, fun j u hj => by
  have := h.wh j u hj
  cases hu : u.wh <;> rw [hu] at this
  · exact this
  · show _ < (A.pp ++ [_]).length
    have : _ < A.pp.length := this
    simp; omega
  · show _ < (A.pp ++ [_]).length
    have : _ < A.pp.length := this
    simp; omega
  · exact this
  · exact this⟩
theorem ok_nwSk {A : AS} {n : Nat} (h : AOk A n) : AOk (nwSk A) (n + 1) := by
  refine ⟨h.row, h.cnt, Nat.le_succ_of_le h.len, fun i t ht => Nat.le_succ_of_le (h.few i t ht), ?_, fun k s hs => ?_, fun j u hj => ?_⟩
  · have := h.sks
    show (A.sk ++ [_]).length ≤ n + 1
    simp; omega
  · rcases get_app hs with ⟨rfl, rfl⟩ | ⟨_, hs⟩
    · exact Nat.zero_le _
    · have := h.skl k s hs
      omega
  · have := h.wh j u hj
    cases hu : u.wh <;> rw [hu] at this
    · exact this
    · exact this
    · exact this
    · exact this
    · show _ < (A.sk ++ [_]).length
      have : _ < A.sk.length := this
      simp; omega
theorem holds_nwSt (A : AS) (i : Nat) : holdsA (nwSt A) i = holdsA A i := by
  unfold holdsA nwSt
  rw [List.map_append, List.sum_append]
  simp
theorem ok_nwSt {A : AS} {n : Nat} (h : AOk A n) : AOk (nwSt A) n := by
  refine ⟨fun k l hl => ?_, fun i t ht => (h.cnt i t ht).trans (holds_nwSt A i).symm, h.len, h.few, h.sks, h.skl, fun j u hj => by have := h.wh j u hj; cases hu : u.wh <;> rw [hu] at this <;> exact this⟩
  rcases get_app hl with ⟨rfl, rfl⟩ | ⟨_, hl⟩
  · refine ⟨by simp, fun j i hj => ?_⟩
    have := List.mem_of_getElem? hj
    have := List.eq_of_mem_replicate this
    cases this
  · exact h.row k l hl

end Go.Proofs.YtemologkibcdoaaGreatDoor

/-
  Write.
  What nodes keep to, whatever call; what a table has behind a turn of one node.
-/
import Derived.Test.YtemologkibcdoaaGreatDoorM10
import Derived.Test.YtemologkibcdoaaGreatDoorM07
import Derived.Test.YtemologkibcdoaaGreatDoorM09

/- Write. -/
namespace Go.Proofs.YtemologkibcdoaaGreatDoor
open Go.RowKit Go.Maps

set_option maxRecDepth 20000 in
theorem twrite_nil (i a : Int) (s : ByteArray) (w : World) : Calls Tryz.prog 171 #[.pointer none, .int .i64 i, .int .i64 a, .string s] w fun e w' => e = .returned (.tuple #[.int .i64 0, .int .i64 2]) ∧ w' = w := by
  go_enter Tryz.func171, Tryz.ntmps171
  go_wp2_with fail
  refine (tfind_nil i w).mono ?_
  rintro e w1 ⟨rfl, hw1⟩
  rw [show w1 = w from hw1]
  clear hw1
  go_wp2
  go_ret2
  exact ⟨rfl, rfl⟩
/-- What Write leaves. -/
def WrL (w w' : World) (p nb : Nat) (X : Nat → Prop) (T : TB) (i a : Int) (d : List UInt8) (N E : Int) : Prop := ∃ T', WrSp T (nb - usedT T) i a d N E T' ∧ TAt w' p X T' nb ∧ GrownS w w' X
theorem PutL.inX {w w' : World} {p nb : Nat} {L : Lay} {T : TB} {X : Nat → Prop} (hin : L.In T p X) (hnb : L.l.length = nb) {i : Nat} {x : Nd} (hi : T[i]? = some (some x)) {a done : Nat} {d : List UInt8} (h : PutL w w' p L T i x a d done) :
    PutSp x.has (freeN L.l) a d.length done ∧ TAt w' p X (T.set i (some (putB x a d done))) nb ∧ GrownS w w' X ∧ ∃ L', TL w' p L' (T.set i (some (putB x a d done))) ∧ L'.In (T.set i (some (putB x a d done))) p X ∧ L'.l.length = nb ∧ L'.q = L.q := by
  obtain ⟨pf, l, h1, h2, h3, h4⟩ := h
  have hin' := hin.step hi (putB x a d done) (updF L.pf i pf) l
  exact ⟨h1, ⟨_, h2, hin', by show l.length = nb; omega⟩, h4.mono (fun k _ e => by rcases e with e | e | e; rw [e]; exact (hin.each i x hi).2; rw [e]; exact hin.gs; rw [e]; exact hin.hs), _, h2, hin', by show l.length = nb; omega, rfl⟩
set_option maxRecDepth 20000 in
set_option maxHeartbeats 1000000 in
theorem twrite_any {w : World} {p nb : Nat} {X : Nat → Prop} {T : TB} (H : TAt w p X T nb) (hgd : ∀ (k : Nat) (x : Nd), T[k]? = some (some x) → x.size ≤ 4096) (i a : Int) (d : List UInt8) (hb : -9223372036854775808 ≤ i ∧ i ≤ 9223372036854775807) (ha : a ≤ 9223372036854775807) (hd : d.length ≤ 1000000) : Calls Tryz.prog 171 #[.pointer (some ⟨p, 0, none⟩), .int .i64 i, .int .i64 a, .string (BA d)] w fun e w' => ∃ N E : Int, e = .returned (.tuple #[.int .i64 N, .int .i64 E]) ∧ Hid (WrL w w' p nb X T i a d N E) := by
  have HH : Hid (TAt w p X T nb ∧ GrownS w w X) := hide ⟨H, grownS_of_below (Below.refl _ _)⟩
  obtain ⟨L, HL, hin, hnb⟩ := H
  have hfr : freeN L.l = nb - usedT T := by have := HL.count; omega
  cases hx : ndAt T i with
  | none =>
    have HF := hide (tfind_none HL hx hb)
    have HE : Hid (WrL w w p nb X T i a d 0 23) := hide ⟨T, .none hx, unhide HH⟩
    clear HL hx hin HH hfr hgd
    go_enter Tryz.func171, Tryz.ntmps171
    go_wp2_with fail
    refine (unhide HF).mono ?_
    rintro e w1 ⟨rfl, hw1⟩
    rw [show w1 = w from hw1]
    clear hw1
    go_wp2
    go_ret2
    exact ⟨_, _, rfl, HE⟩
  | some x =>
    obtain ⟨k, rfl, hk, _⟩ := ndAt_some hx
    have HF := hide (tfind_some HL hk)
    by_cases h1 : a < 0
    · have HE : Hid (WrL w w p nb X T ((k : Int) + 1) a d 0 1) := hide ⟨T, .arg x hx h1, unhide HH⟩
      obtain ⟨q, hq⟩ : ∃ q, q = L.q k := ⟨_, rfl⟩
      rw [← hq] at HF
      clear HL hx hin HH hfr hgd hq hk
      go_enter Tryz.func171, Tryz.ntmps171
      go_wp2_with fail
      refine (unhide HF).mono ?_
      rintro e w1 ⟨rfl, hw1⟩
      rw [show w1 = w from hw1]
      clear hw1
      go_wp2
      go_ret2
      exact ⟨_, _, rfl, HE⟩
    · by_cases h2 : d = []
      · have HE : Hid (WrL w w p nb X T ((k : Int) + 1) a d 0 0) := hide ⟨T, .empty x hx (by omega) h2, unhide HH⟩
        obtain ⟨q, hq⟩ : ∃ q, q = L.q k := ⟨_, rfl⟩
        rw [← hq] at HF
        have e0 : BA d = ⟨#[]⟩ := by rw [h2]; rfl
        rw [e0]
        clear HL hx hin HH hfr hgd hq hk e0 h2
        go_enter Tryz.func171, Tryz.ntmps171
        go_wp2_with fail
        refine (unhide HF).mono ?_
        rintro e w1 ⟨rfl, hw1⟩
        rw [show w1 = w from hw1]
        clear hw1
        go_wp2
        go_ret2
        exact ⟨_, _, rfl, HE⟩
      · have hne : (BA d).toList.isEmpty = false := by
          rw [ByteArray.toList_eq]
          cases d with
          | nil => exact absurd rfl h2
          | cons _ _ => rfl
        by_cases h3 : 4096 ≤ a
        · have HE : Hid (WrL w w p nb X T ((k : Int) + 1) a d 0 3) := hide ⟨T, .big x hx h3 h2, unhide HH⟩
          obtain ⟨q, hq⟩ : ∃ q, q = L.q k := ⟨_, rfl⟩
          rw [← hq] at HF
          obtain ⟨S, hS⟩ : ∃ S, S = BA d := ⟨_, rfl⟩
          rw [← hS] at hne ⊢
          clear HL hx hin HH hfr hgd hq hk h2 hS
          go_enter Tryz.func171, Tryz.ntmps171
          go_wp2_with fail
          refine (unhide HF).mono ?_
          rintro e w1 ⟨rfl, hw1⟩
          rw [show w1 = w from hw1]
          clear hw1
          go_wp2
          go_ret2
          exact ⟨_, _, rfl, HE⟩
        · obtain ⟨at', rfl⟩ : ∃ at' : Nat, a = at' := ⟨a.toNat, by omega⟩
          have hdl : 0 < d.length := by cases d with | nil => exact absurd rfl h2 | cons _ _ => simp
          have hsz := hgd k x hk
          obtain ⟨m, hm⟩ : ∃ m, m = min d.length (4096 - at') := ⟨_, rfl⟩
          have hml : (d.take m).length = m := by simp; omega
          have HP := hide (put_any HL hk at' (d.take m) (by rw [hml]; omega))
          rw [hml] at HP
          have hgT : ∀ done, done ≤ m → putB x at' (d.take m) done = putB x at' d done := fun done hd => by
            unfold putB
            congr 1
            funext j
            by_cases hj : at' ≤ j ∧ j < at' + done
            · rw [if_pos hj, if_pos hj, List.getD_eq_getElem?_getD, List.getElem?_take, if_pos (by omega), List.getD_eq_getElem?_getD]
            · rw [if_neg hj, if_neg hj]
          have HQ : Hid (∀ w1 done, done ≤ m → PutL w w1 p L T k x at' (d.take m) done → (done = 0 → WrL w w1 p nb X T ((k : Int) + 1) at' d 0 20) ∧ (w1.cell? ⟨L.q k, 3, none⟩ = some (.int .i64 (x.size : Int)) ∧ w1.frozen? ⟨L.q k, 3, none⟩ = false) ∧ (0 < done → WrL w (w1.setCell ⟨L.q k, 3, none⟩ (.int .i64 ((Nat.max x.size (at' + done) : Nat) : Int))) p nb X T ((k : Int) + 1) at' d done 0)) := hide (fun w1 done hdm hp => by
            obtain ⟨p1, p2, p3, L', t1, i1, n1, q1⟩ := PutL.inX hin hnb hk hp
            rw [hml, hfr] at p1
            rw [hgT done hdm] at p2 t1 i1
            have hbk := (t1.node k _ (set_same hk)).blk
            rw [q1] at hbk
            refine ⟨fun h0 => ?_, ⟨hbk.cell 3 rfl, hbk.frozen 3⟩, fun h0 => ?_⟩
            · subst h0
              rw [putB_zero, set_self hk] at p2
              exact ⟨T, .space x at' hx rfl (by omega) h2 (by rw [← hm]; exact p1), p2, p3⟩
            · obtain ⟨c1, c2⟩ := t1.cellTurn i1 n1 (set_same hk) (c := 3) (v := .int .i64 ((Nat.max x.size (at' + done) : Nat) : Int)) (x' := putN x at' d done) (by
                rw [q1]
                exact hbk.set 3 _) rfl rfl
              rw [q1] at c1 c2
              rw [List.set_set] at c1
              refine ⟨T.set k (some (putN x at' d done)), ?_, c1, p3.trans c2⟩
              have := WrSp.done (T := T) (free := nb - usedT T) (i := (k : Int) + 1) (a := at') (d := d) x at' done hx rfl (by omega) h2 h0 (by rw [← hm]; exact p1)
              rw [plc_of] at this
              exact this)
          obtain ⟨q, hq⟩ : ∃ q, q = L.q k := ⟨_, rfl⟩
          rw [← hq] at HF HP HQ
          obtain ⟨PX, hPX⟩ : ∃ P : World → Nat → Prop, P = fun w1 done => PutL w w1 p L T k x at' (d.take m) done := ⟨_, rfl⟩
          replace HP : Hid (Calls Tryz.prog 188 #[.pointer (some ⟨p, 0, none⟩), .pointer (some ⟨q, 0, none⟩), .int .i64 (at' : Int), .string (BA (d.take m))] w fun e w' => ∃ done : Nat, e = .returned (.int .i64 (done : Int)) ∧ done ≤ m ∧ Hid (PX w' done)) := hide (by rw [hPX]; exact unhide HP)
          obtain ⟨sz, hsz2⟩ : ∃ sz, sz = x.size := ⟨_, rfl⟩
          rw [← hsz2] at HQ hsz
          replace HQ : Hid (∀ w1 done, done ≤ m → PX w1 done → (done = 0 → WrL w w1 p nb X T ((k : Int) + 1) at' d 0 20) ∧ (w1.cell? ⟨q, 3, none⟩ = some (.int .i64 (sz : Int)) ∧ w1.frozen? ⟨q, 3, none⟩ = false) ∧ (0 < done → WrL w (w1.setCell ⟨q, 3, none⟩ (.int .i64 ((Nat.max sz (at' + done) : Nat) : Int))) p nb X T ((k : Int) + 1) at' d done 0)) := hide (by rw [hPX]; exact unhide HQ)
          obtain ⟨S, hS⟩ : ∃ S, S = BA d := ⟨_, rfl⟩
          rw [← hS] at hne ⊢
          have hSs : S.size = d.length := by rw [hS]; rfl
          obtain ⟨dl, hdl2⟩ : ∃ dl, dl = d.length := ⟨_, rfl⟩
          rw [← hdl2] at hSs hd hdl hm
          have hmin : min (dl : Int) (4096 - (at' : Int)) = (m : Int) := by omega
          have hex : S.extract 0 m = BA (d.take m) := by
            have := extract_take (BA d) 0 m
            rw [hS, ← Nat.zero_add m]
            simpa using this
          have hmd : m ≤ dl := by omega
          have h31 : (at' : Int) < 4096 := by omega
          clear hm h1 h3
          have h1 : ¬ (at' : Int) < 0 := by omega
          have h3 : ¬ (4096 : Int) ≤ (at' : Int) := by omega
          clear HL hx hin HH hfr hgd hq hk h2 hS hPX hgT hsz2 hdl2 hml
          go_enter Tryz.func171, Tryz.ntmps171
          go_wp2_with fail
          refine (unhide HF).mono ?_
          rintro e w1 ⟨rfl, hw1⟩
          rw [show w1 = w from hw1]
          clear hw1
          go_wp2_with fail
          refine (unhide HP).mono ?_
          rintro e w1 ⟨done, rfl, hdm, H1⟩
          obtain ⟨z1, ⟨c1, f1⟩, z2⟩ := unhide HQ w1 done hdm (unhide H1)
          have Z1 := hide z1
          have Z2 := hide z2
          clear z1 z2 HQ HP
          by_cases h0 : done = 0
          · have HE := hide (unhide Z1 h0)
            subst h0
            clear Z1 Z2
            go_wp2
            go_ret2
            exact ⟨_, _, rfl, HE⟩
          · have HE := hide (unhide Z2 (by omega))
            have hd0 : ((done : Int) == 0) = false := by simp; omega
            have hmaxe : max (sz : Int) ((at' : Int) + (done : Int)) = ((Nat.max sz (at' + done) : Nat) : Int) := by
              show _ = ((max sz (at' + done) : Nat) : Int)
              omega
            clear Z1 Z2
            go_wp2
            go_ret2
            exact ⟨_, _, rfl, HE⟩

end Go.Proofs.YtemologkibcdoaaGreatDoor

/- What nodes keep to, whatever call; what a table has behind a turn of one node. -/
namespace Go.Proofs.YtemologkibcdoaaGreatDoor
open Go.RowKit Go.Maps

theorem good_ties {x : Nd} (h : x.Good) {x' : Nd} (h1 : x'.kind = x.kind) (h2 : x'.size = x.size) (h3 : x'.byt = x.byt) (h4 : x'.has = x.has) : x'.Good :=
  ⟨by rw [h1]; exact h.kind1, by rw [h1]; exact h.kind3, by rw [h2]; exact h.size, by rw [h2, h3]; exact h.zero, by rw [h2, h4]; exact h.has⟩
theorem good_new (n m : Nat) : TGood (List.replicate n none) m := fun i x h => by
  rw [List.getElem?_replicate] at h
  split at h
  · injection h with h
    cases h
  · cases h
theorem good_make {T : TB} {n : Nat} (h : TGood T n) (k : Int) : TGood (makeT T k) n := by
  unfold makeT
  split
  · rename_i hk
    rw [Bool.and_eq_true] at hk
    exact h.set _ (fun x hx => by injection hx with hx; subst hx; exact ⟨nd0_good hk.1, Nat.zero_le _, Nat.zero_le _⟩)
  · exact h
theorem good_tie {T : TB} {n : Nat} (h : TGood T n) (i : Int) : TGood (tieT T i) (n + 1) := by
  unfold tieT
  cases hx : ndAt T i with
  | none => exact h.mono (Nat.le_succ _)
  | some x =>
    obtain ⟨k, _, hk, _⟩ := ndAt_some hx
    have g := h k x hk
    exact (h.mono (Nat.le_succ _)).set _ (fun y hy => by injection hy with hy; subst hy; exact ⟨good_ties g.1 rfl rfl rfl rfl, Nat.succ_le_succ g.2.1, Nat.le_succ_of_le g.2.2⟩)
theorem good_hold {T : TB} {n : Nat} (h : TGood T n) (i : Int) : TGood (holdT T i) (n + 1) := by
  unfold holdT
  cases hx : ndAt T i with
  | none => exact h.mono (Nat.le_succ _)
  | some x =>
    obtain ⟨k, _, hk, _⟩ := ndAt_some hx
    have g := h k x hk
    exact (h.mono (Nat.le_succ _)).set _ (fun y hy => by injection hy with hy; subst hy; exact ⟨good_ties g.1 rfl rfl rfl rfl, Nat.le_succ_of_le g.2.1, Nat.succ_le_succ g.2.2⟩)
theorem good_unt {T : TB} {n : Nat} (h : TGood T n) (i : Int) : TGood (untT T i) n := by
  unfold untT
  cases hx : ndAt T i with
  | none => exact h
  | some x =>
    obtain ⟨k, _, hk, _⟩ := ndAt_some hx
    have g := h k x hk
    dsimp only
    split
    · exact h
    · refine h.set _ (fun y hy => ?_)
      unfold leftN at hy
      split at hy
      · cases hy
      · injection hy with hy
        subst hy
        exact ⟨good_ties g.1 rfl rfl rfl rfl, Nat.le_trans (Nat.sub_le _ _) g.2.1, g.2.2⟩
theorem good_loo {T : TB} {n : Nat} (h : TGood T n) (i : Int) : TGood (looT T i) n := by
  unfold looT
  cases hx : ndAt T i with
  | none => exact h
  | some x =>
    obtain ⟨k, _, hk, _⟩ := ndAt_some hx
    have g := h k x hk
    dsimp only
    split
    · exact h
    · refine h.set _ (fun y hy => ?_)
      unfold leftN at hy
      split at hy
      · cases hy
      · injection hy with hy
        subst hy
        exact ⟨good_ties g.1 rfl rfl rfl rfl, g.2.1, Nat.le_trans (Nat.sub_le _ _) g.2.2⟩
theorem good_cut {T : TB} {n : Nat} (h : TGood T n) (i s : Int) : TGood (cutT T i s) n := by
  unfold cutT
  cases hx : ndAt T i with
  | none => exact h
  | some x =>
    obtain ⟨k, _, hk, _⟩ := ndAt_some hx
    have g := h k x hk
    dsimp only
    split
    · exact h
    · exact h.set _ (fun y hy => by injection hy with hy; subst hy; exact ⟨g.1.cut (by omega), g.2⟩)
theorem good_wr {T T' : TB} {n free : Nat} (h : TGood T n) {i a N E : Int} {d : List UInt8} (hw : WrSp T free i a d N E T') : TGood T' n := by
  cases hw with
  | none => exact h
  | arg => exact h
  | empty => exact h
  | big => exact h
  | space => exact h
  | done x at' m hx _ _ _ _ hp =>
    obtain ⟨k, _, hk, _⟩ := ndAt_some hx
    have g := h k x hk
    exact h.set _ (fun y hy => by injection hy with hy; subst hy; exact ⟨g.1.put hp.max, g.2⟩)

theorem ndAt_set {T : TB} {k : Nat} {o : Option Nd} (h : k < T.length) (i : Int) : ndAt (T.set k o) i = if i = (k : Int) + 1 then o else ndAt T i := by
  by_cases e : i = (k : Int) + 1
  · rw [if_pos e, e]
    exact ndAt_of (by rw [List.getElem?_set, if_pos rfl, if_pos h])
  · rw [if_neg e]
    unfold ndAt
    by_cases h1 : 1 ≤ i
    · rw [if_pos h1, if_pos h1, List.getElem?_set, if_neg (by omega)]
    · rw [if_neg h1, if_neg h1]
theorem WrSp.uniq {T T1 T2 : TB} {free : Nat} {i a N1 E1 N2 E2 : Int} {d : List UInt8} (h1 : WrSp T free i a d N1 E1 T1) (h2 : WrSp T free i a d N2 E2 T2) : N1 = N2 ∧ E1 = E2 ∧ T1 = T2 := by
  cases h1 with
  | none a1 =>
    cases h2 with
    | none => exact ⟨rfl, rfl, rfl⟩
    | arg x b1 => rw [a1] at b1; cases b1
    | empty x b1 => rw [a1] at b1; cases b1
    | big x b1 => rw [a1] at b1; cases b1
    | space x c b1 => rw [a1] at b1; cases b1
    | done x c m b1 => rw [a1] at b1; cases b1
  | arg x a1 a2 =>
    cases h2 with
    | none b1 => rw [a1] at b1; cases b1
    | arg => exact ⟨rfl, rfl, rfl⟩
    | empty y b1 b2 => omega
    | big y b1 b2 => omega
    | space y c b1 b2 => omega
    | done y c m b1 b2 => omega
  | empty x a1 a2 a3 =>
    cases h2 with
    | none b1 => rw [a1] at b1; cases b1
    | arg y b1 b2 => omega
    | empty => exact ⟨rfl, rfl, rfl⟩
    | big y b1 b2 b3 => exact absurd a3 b3
    | space y c b1 b2 b3 b4 => exact absurd a3 b4
    | done y c m b1 b2 b3 b4 => exact absurd a3 b4
  | big x a1 a2 a3 =>
    cases h2 with
    | none b1 => rw [a1] at b1; cases b1
    | arg y b1 b2 => omega
    | empty y b1 b2 b3 => exact absurd b3 a3
    | big => exact ⟨rfl, rfl, rfl⟩
    | space y c b1 b2 b3 => omega
    | done y c m b1 b2 b3 => omega
  | space x c a1 a2 a3 a4 a5 =>
    cases h2 with
    | none b1 => rw [a1] at b1; cases b1
    | arg y b1 b2 => omega
    | empty y b1 b2 b3 => exact absurd b3 a4
    | big y b1 b2 b3 => omega
    | space => exact ⟨rfl, rfl, rfl⟩
    | done y c' m b1 b2 b3 b4 b5 b6 =>
      obtain rfl : c = c' := by omega
      rw [a1] at b1
      injection b1 with b1
      subst b1
      have := a5.uniq b6
      omega
  | done x c m a1 a2 a3 a4 a5 a6 =>
    cases h2 with
    | none b1 => rw [a1] at b1; cases b1
    | arg y b1 b2 => omega
    | empty y b1 b2 b3 => exact absurd b3 a4
    | big y b1 b2 b3 => omega
    | space y c' b1 b2 b3 b4 b5 =>
      obtain rfl : c = c' := by omega
      rw [a1] at b1
      injection b1 with b1
      subst b1
      have := a6.uniq b5
      omega
    | done y c' m' b1 b2 b3 b4 b5 b6 =>
      obtain rfl : c = c' := by omega
      rw [a1] at b1
      injection b1 with b1
      subst b1
      obtain rfl := a6.uniq b6
      exact ⟨rfl, rfl, rfl⟩
def datO (o : Option Nd) : List UInt8 := match o with | none => [] | some x => datOf x
theorem dat_len (o : Option Nd) : (BA (datO o)).size = sizeOfN o := by
  rw [BA_size]
  cases o with
  | none => rfl
  | some x => exact datOf_len x
theorem rd_all {T : TB} {n : Nat} (h : TGood T n) (i : Int) : rdT T i 0 4096 = datO (ndAt T i) := by
  unfold rdT
  cases hx : ndAt T i with
  | none => rfl
  | some x =>
    obtain ⟨k, _, hk, _⟩ := ndAt_some hx
    have h1 := (h k x hk).1.size
    show (if (0 : Int) < 0 ∨ (4096 : Int) < 0 then [] else ((datOf x).drop 0).take 4096) = datOf x
    rw [if_neg (by omega), List.drop_zero, List.take_of_length_le (by rw [datOf_len]; exact h1)]

end Go.Proofs.YtemologkibcdoaaGreatDoor

/-
  Write.
-/
import Derived.Test.YtcfhgjlihifmnaaIPut
namespace Go.Proofs.Ytcfhgjlihifmnaa
open Go.RowKit Go.Maps

set_option maxRecDepth 20000 in
theorem twrite_nil (i a : Int) (s : ByteArray) (w : World) : Calls Try.prog 14 #[.pointer none, .int .i64 i, .int .i64 a, .string s] w fun e w' => e = .returned (.tuple #[.int .i64 0, .int .i64 2]) ∧ w' = w := by
  go_enter Try.func14, Try.ntmps14
  go_wp2_with fail
  refine (tfind_nil i w).mono ?_
  rintro e w1 ⟨rfl, hw1⟩
  rw [show w1 = w from hw1]
  clear hw1
  go_wp2
  go_ret2
  exact ⟨rfl, rfl⟩
/-- What Write leaves. -/
def WrL (w w' : World) (p nb : Nat) (X : Nat → Prop) (T : TB) (i a : Int) (d : List UInt8) (N E : Int) : Prop := ∃ T', WrSp T (nb - usedT T) i a d N E T' ∧ TAt w' p X T' nb ∧ GrownS w w' X
theorem PutL.inX {w w' : World} {p nb : Nat} {L : Lay} {T : TB} {X : Nat → Prop} (hin : L.In T p X) (hnb : L.l.length = nb) {i : Nat} {x : Nd} (hi : T[i]? = some (some x)) {a done : Nat} {d : List UInt8} (h : PutL w w' p L T i x a d done) :
    PutSp x.has (freeN L.l) a d.length done ∧ TAt w' p X (T.set i (some (putB x a d done))) nb ∧ GrownS w w' X ∧ ∃ L', TL w' p L' (T.set i (some (putB x a d done))) ∧ L'.In (T.set i (some (putB x a d done))) p X ∧ L'.l.length = nb ∧ L'.q = L.q := by
  obtain ⟨pf, l, h1, h2, h3, h4⟩ := h
  have hin' := hin.step hi (putB x a d done) (updF L.pf i pf) l
  exact ⟨h1, ⟨_, h2, hin', by show l.length = nb; omega⟩, h4.mono (fun k _ e => by rcases e with e | e | e; rw [e]; exact (hin.each i x hi).2; rw [e]; exact hin.gs; rw [e]; exact hin.hs), _, h2, hin', by show l.length = nb; omega, rfl⟩
set_option maxRecDepth 20000 in
set_option maxHeartbeats 1000000 in
theorem twrite_any {w : World} {p nb : Nat} {X : Nat → Prop} {T : TB} (H : TAt w p X T nb) (hgd : ∀ (k : Nat) (x : Nd), T[k]? = some (some x) → x.size ≤ 4096) (i a : Int) (d : List UInt8) (hb : -9223372036854775808 ≤ i ∧ i ≤ 9223372036854775807) (ha : a ≤ 9223372036854775807) (hd : d.length ≤ 1000000) : Calls Try.prog 14 #[.pointer (some ⟨p, 0, none⟩), .int .i64 i, .int .i64 a, .string (BA d)] w fun e w' => ∃ N E : Int, e = .returned (.tuple #[.int .i64 N, .int .i64 E]) ∧ Hid (WrL w w' p nb X T i a d N E) := by
  have HH : Hid (TAt w p X T nb ∧ GrownS w w X) := hide ⟨H, grownS_of_below (Below.refl _ _)⟩
  obtain ⟨L, HL, hin, hnb⟩ := H
  have hfr : freeN L.l = nb - usedT T := by have := HL.count; omega
  cases hx : ndAt T i with
  | none =>
    have HF := hide (tfind_none HL hx hb)
    have HE : Hid (WrL w w p nb X T i a d 0 23) := hide ⟨T, .none hx, unhide HH⟩
    clear HL hx hin HH hfr hgd
    go_enter Try.func14, Try.ntmps14
    go_wp2_with fail
    refine (unhide HF).mono ?_
    rintro e w1 ⟨rfl, hw1⟩
    rw [show w1 = w from hw1]
    clear hw1
    go_wp2
    go_ret2
    exact ⟨_, _, rfl, HE⟩
  | some x =>
    obtain ⟨k, rfl, hk, _⟩ := ndAt_some hx
    have HF := hide (tfind_some HL hk)
    by_cases h1 : a < 0
    · have HE : Hid (WrL w w p nb X T ((k : Int) + 1) a d 0 1) := hide ⟨T, .arg x hx h1, unhide HH⟩
      obtain ⟨q, hq⟩ : ∃ q, q = L.q k := ⟨_, rfl⟩
      rw [← hq] at HF
      clear HL hx hin HH hfr hgd hq hk
      go_enter Try.func14, Try.ntmps14
      go_wp2_with fail
      refine (unhide HF).mono ?_
      rintro e w1 ⟨rfl, hw1⟩
      rw [show w1 = w from hw1]
      clear hw1
      go_wp2
      go_ret2
      exact ⟨_, _, rfl, HE⟩
    · by_cases h2 : d = []
      · have HE : Hid (WrL w w p nb X T ((k : Int) + 1) a d 0 0) := hide ⟨T, .empty x hx (by omega) h2, unhide HH⟩
        obtain ⟨q, hq⟩ : ∃ q, q = L.q k := ⟨_, rfl⟩
        rw [← hq] at HF
        have e0 : BA d = ⟨#[]⟩ := by rw [h2]; rfl
        rw [e0]
        clear HL hx hin HH hfr hgd hq hk e0 h2
        go_enter Try.func14, Try.ntmps14
        go_wp2_with fail
        refine (unhide HF).mono ?_
        rintro e w1 ⟨rfl, hw1⟩
        rw [show w1 = w from hw1]
        clear hw1
        go_wp2
        go_ret2
        exact ⟨_, _, rfl, HE⟩
      · have hne : (BA d).toList.isEmpty = false := by
          rw [ByteArray.toList_eq]
          cases d with
          | nil => exact absurd rfl h2
          | cons _ _ => rfl
        by_cases h3 : 4096 ≤ a
        · have HE : Hid (WrL w w p nb X T ((k : Int) + 1) a d 0 3) := hide ⟨T, .big x hx h3 h2, unhide HH⟩
          obtain ⟨q, hq⟩ : ∃ q, q = L.q k := ⟨_, rfl⟩
          rw [← hq] at HF
          obtain ⟨S, hS⟩ : ∃ S, S = BA d := ⟨_, rfl⟩
          rw [← hS] at hne ⊢
          clear HL hx hin HH hfr hgd hq hk h2 hS
          go_enter Try.func14, Try.ntmps14
          go_wp2_with fail
          refine (unhide HF).mono ?_
          rintro e w1 ⟨rfl, hw1⟩
          rw [show w1 = w from hw1]
          clear hw1
          go_wp2
          go_ret2
          exact ⟨_, _, rfl, HE⟩
        · obtain ⟨at', rfl⟩ : ∃ at' : Nat, a = at' := ⟨a.toNat, by omega⟩
          have hdl : 0 < d.length := by cases d with | nil => exact absurd rfl h2 | cons _ _ => simp
          have hsz := hgd k x hk
          obtain ⟨m, hm⟩ : ∃ m, m = min d.length (4096 - at') := ⟨_, rfl⟩
          have hml : (d.take m).length = m := by simp; omega
          have HP := hide (put_any HL hk at' (d.take m) (by rw [hml]; omega))
          rw [hml] at HP
          have hgT : ∀ done, done ≤ m → putB x at' (d.take m) done = putB x at' d done := fun done hd => by
            unfold putB
            congr 1
            funext j
            by_cases hj : at' ≤ j ∧ j < at' + done
            · rw [if_pos hj, if_pos hj, List.getD_eq_getElem?_getD, List.getElem?_take, if_pos (by omega), List.getD_eq_getElem?_getD]
            · rw [if_neg hj, if_neg hj]
          have HQ : Hid (∀ w1 done, done ≤ m → PutL w w1 p L T k x at' (d.take m) done → (done = 0 → WrL w w1 p nb X T ((k : Int) + 1) at' d 0 20) ∧ (w1.cell? ⟨L.q k, 3, none⟩ = some (.int .i64 (x.size : Int)) ∧ w1.frozen? ⟨L.q k, 3, none⟩ = false) ∧ (0 < done → WrL w (w1.setCell ⟨L.q k, 3, none⟩ (.int .i64 ((Nat.max x.size (at' + done) : Nat) : Int))) p nb X T ((k : Int) + 1) at' d done 0)) := hide (fun w1 done hdm hp => by
            obtain ⟨p1, p2, p3, L', t1, i1, n1, q1⟩ := PutL.inX hin hnb hk hp
            rw [hml, hfr] at p1
            rw [hgT done hdm] at p2 t1 i1
            have hbk := (t1.node k _ (set_same hk)).blk
            rw [q1] at hbk
            refine ⟨fun h0 => ?_, ⟨hbk.cell 3 rfl, hbk.frozen 3⟩, fun h0 => ?_⟩
            · subst h0
              rw [putB_zero, set_self hk] at p2
              exact ⟨T, .space x at' hx rfl (by omega) h2 (by rw [← hm]; exact p1), p2, p3⟩
            · obtain ⟨c1, c2⟩ := t1.cellTurn i1 n1 (set_same hk) (c := 3) (v := .int .i64 ((Nat.max x.size (at' + done) : Nat) : Int)) (x' := putN x at' d done) (by
                rw [q1]
                exact hbk.set 3 _) rfl rfl
              rw [q1] at c1 c2
              rw [List.set_set] at c1
              refine ⟨T.set k (some (putN x at' d done)), ?_, c1, p3.trans c2⟩
              have := WrSp.done (T := T) (free := nb - usedT T) (i := (k : Int) + 1) (a := at') (d := d) x at' done hx rfl (by omega) h2 h0 (by rw [← hm]; exact p1)
              rw [plc_of] at this
              exact this)
          obtain ⟨q, hq⟩ : ∃ q, q = L.q k := ⟨_, rfl⟩
          rw [← hq] at HF HP HQ
          obtain ⟨PX, hPX⟩ : ∃ P : World → Nat → Prop, P = fun w1 done => PutL w w1 p L T k x at' (d.take m) done := ⟨_, rfl⟩
          replace HP : Hid (Calls Try.prog 34 #[.pointer (some ⟨p, 0, none⟩), .pointer (some ⟨q, 0, none⟩), .int .i64 (at' : Int), .string (BA (d.take m))] w fun e w' => ∃ done : Nat, e = .returned (.int .i64 (done : Int)) ∧ done ≤ m ∧ Hid (PX w' done)) := hide (by rw [hPX]; exact unhide HP)
          obtain ⟨sz, hsz2⟩ : ∃ sz, sz = x.size := ⟨_, rfl⟩
          rw [← hsz2] at HQ hsz
          replace HQ : Hid (∀ w1 done, done ≤ m → PX w1 done → (done = 0 → WrL w w1 p nb X T ((k : Int) + 1) at' d 0 20) ∧ (w1.cell? ⟨q, 3, none⟩ = some (.int .i64 (sz : Int)) ∧ w1.frozen? ⟨q, 3, none⟩ = false) ∧ (0 < done → WrL w (w1.setCell ⟨q, 3, none⟩ (.int .i64 ((Nat.max sz (at' + done) : Nat) : Int))) p nb X T ((k : Int) + 1) at' d done 0)) := hide (by rw [hPX]; exact unhide HQ)
          obtain ⟨S, hS⟩ : ∃ S, S = BA d := ⟨_, rfl⟩
          rw [← hS] at hne ⊢
          have hSs : S.size = d.length := by rw [hS]; rfl
          obtain ⟨dl, hdl2⟩ : ∃ dl, dl = d.length := ⟨_, rfl⟩
          rw [← hdl2] at hSs hd hdl hm
          have hmin : min (dl : Int) (4096 - (at' : Int)) = (m : Int) := by omega
          have hex : S.extract 0 m = BA (d.take m) := by
            have := extract_take (BA d) 0 m
            rw [hS, ← Nat.zero_add m]
            simpa using this
          have hmd : m ≤ dl := by omega
          have h31 : (at' : Int) < 4096 := by omega
          clear hm h1 h3
          have h1 : ¬ (at' : Int) < 0 := by omega
          have h3 : ¬ (4096 : Int) ≤ (at' : Int) := by omega
          clear HL hx hin HH hfr hgd hq hk h2 hS hPX hgT hsz2 hdl2 hml
          go_enter Try.func14, Try.ntmps14
          go_wp2_with fail
          refine (unhide HF).mono ?_
          rintro e w1 ⟨rfl, hw1⟩
          rw [show w1 = w from hw1]
          clear hw1
          go_wp2_with fail
          refine (unhide HP).mono ?_
          rintro e w1 ⟨done, rfl, hdm, H1⟩
          obtain ⟨z1, ⟨c1, f1⟩, z2⟩ := unhide HQ w1 done hdm (unhide H1)
          have Z1 := hide z1
          have Z2 := hide z2
          clear z1 z2 HQ HP
          by_cases h0 : done = 0
          · have HE := hide (unhide Z1 h0)
            subst h0
            clear Z1 Z2
            go_wp2
            go_ret2
            exact ⟨_, _, rfl, HE⟩
          · have HE := hide (unhide Z2 (by omega))
            have hd0 : ((done : Int) == 0) = false := by simp; omega
            have hmaxe : max (sz : Int) ((at' : Int) + (done : Int)) = ((Nat.max sz (at' + done) : Nat) : Int) := by
              show _ = ((max sz (at' + done) : Nat) : Int)
              omega
            clear Z1 Z2
            go_wp2
            go_ret2
            exact ⟨_, _, rfl, HE⟩

end Go.Proofs.Ytcfhgjlihifmnaa

/-
  Numbers of open files: Read, Write, Close, Dup of a set.
  Numbers of open files: Write, Close, Dup of a set.
-/
import Derived.Test.YtemologkibcdoaaGreatDoorM37

/- Numbers of open files: Read, Write, Close, Dup of a set. -/
namespace Go.Proofs.YtemologkibcdoaaGreatDoor
open Go.RowKit Go.Maps

theorem open_pp (A : AS) (p : Nat) (g : Pi.Pp → Pi.Pp) : openA (setPp A p g) = openA A := by
  unfold setPp
  split <;> rfl
theorem open_rd {A : AS} {i : Nat} {t : Th} (ht : A.th[i]? = some t) (m : Int) : openA (rdWhA A i m t.wh) = openA A := by
  obtain ⟨wh, mm⟩ := t
  cases wh with
  | file y => exact open_wh ht _
  | rd p => exact open_pp _ _ _
  | wr p => rfl
  | sink k => rfl
  | tape s =>
    show openA (if m < 0 then A else _) = _
    split
    · rfl
    · exact open_wh ht _
theorem open_wrt {A A' : AS} {nb i : Nat} {t : Th} {N E : Int} {d : List UInt8} (ht : A.th[i]? = some t) (h : WrWh A nb i d t.wh N E A') : openA A' = openA A := by
  obtain ⟨wh, mm⟩ := t
  cases h with
  | file y N E s' x' h =>
    have := open_wh ht (.file x')
    exact this
  | rd p => rfl
  | wr p => exact open_pp _ _ _
  | tape s => rfl
  | sink k s hk => rfl
/-- A number that is open, and one that is not. -/
theorem ref_cases {l : List (Option Nat)} (hl : l.length = 16) (fd : Int) : (refL l fd = 28 ∧ numL l fd = none) ∨ (refL l fd = 0 ∧ ∃ (j i : Nat), fd = (j : Int) ∧ j < 16 ∧ l[j]? = some (some i) ∧ numL l fd = some i) := by
  unfold refL
  cases h : numL l fd with
  | none => exact .inl ⟨rfl, rfl⟩
  | some i =>
    refine .inr ⟨rfl, ?_⟩
    cases hf : fdOk fd with
    | false => rw [numL_no hf] at h; cases h
    | true =>
      obtain ⟨j, e, hj, e2⟩ := numL_ok (l := l) hf
      refine ⟨j, i, e, hj, ?_, rfl⟩
      rw [e2, List.getElem?_eq_getElem (by omega)] at h
      rw [List.getElem?_eq_getElem (by omega)]
      exact congrArg some h
set_option maxRecDepth 20000 in
set_option maxHeartbeats 4000000 in
theorem sread_any {w : World} {f q nb n x : Nat} {B : Bas} {Z : Nat → Prop} {A : AS} {sb : List Nat} {H : Hp} {L : Fay} (F : FH w f q Z A nb n B x sb H L) {k b : Nat} {l : List (Option Nat)} (hb : sb[k]? = some b) (hl : A.st[k]? = some l) (K : AOk A n) (fd m : Int) : Calls Tryz.prog 18 #[.pointer (some ⟨b, 0, none⟩), .int .i64 fd, .int .i64 m] w fun e w' => e = .returned (.tuple #[.string (BA (redT A k fd m)), .int .i64 (redE A k fd m)]) ∧ Hid (∃ H', FH w' f q Z (redA A k fd m) nb n B x sb H' L ∧ AOk (redA A k fd m) n) := by
  obtain ⟨c0, c1, f1, hblk, hl16⟩ := F.setCell hb hl
  have HR := hide (srefuse_any hblk hl16 fd)
  unfold redT redE redA
  rw [row_at hl]
  rcases ref_cases hl16 fd with ⟨e1, e2⟩ | ⟨e1, j, i, rfl, hj, hlj, e2⟩
  · rw [e2]
    rw [e1] at HR
    have HF := hide (show ∃ H', FH w f q Z A nb n B x sb H' L ∧ AOk A n from ⟨H, F, K⟩)
    clear F K hb hl c0 c1 f1 hblk hl16 e1 e2
    go_enter Tryz.func18, Tryz.ntmps18
    go_wp2_with fail
    refine (unhide HR).mono ?_
    rintro e w1 ⟨rfl, hw⟩
    subst hw
    go_wp2_with fail
    go_ret2
    exact ⟨rfl, HF⟩
  · obtain ⟨t, ht, _, _, hw⟩ := K.at hl hlj
    rw [e2]
    dsimp only
    rw [ht]
    dsimp only
    rw [e1] at HR
    have d1 := c1 j hj
    rw [hlj] at d1
    replace d1 : w.cell? ⟨b, 1 + j, none⟩ = some (.pointer (some ⟨L.tb i, 0, none⟩)) := d1
    obtain ⟨a3, _, _⟩ := F.thCell ht
    have hj1 : (j : Int) < 16 := by omega
    have hj0 : (0 : Int) ≤ (j : Int) := by omega
    have hC := read1_any F.mx F.li K ht m
    have HSK : ∀ kk, t.wh = .sink kk → (method 390 106 (.pointer (some ⟨L.kb kk, 0, none⟩)) "conch/fds.read").run Tryz.prog w = Result.ok (234, .agg #[]) w := fun kk e => by
      have hk : kk < A.sk.length := by
        rw [e] at hw
        exact hw
      obtain ⟨s, hs⟩ : ∃ s, A.sk[kk]? = some s := ⟨_, List.getElem?_eq_getElem hk⟩
      obtain ⟨a, v, e1, _⟩ := F.li.sk kk s hs
      exact meth_sink (F.mx.blk _ _ e1) 389
    rw [← open_rd ht m] at hC
    obtain ⟨AA, hAA⟩ : ∃ AA, AA = rdWhA A i m t.wh := ⟨_, rfl⟩
    obtain ⟨T, hT⟩ : ∃ T, T = BA (rdWhT A m t.wh) := ⟨_, rfl⟩
    obtain ⟨E, hE⟩ : ∃ E, E = rdWhE A m t.wh := ⟨_, rfl⟩
    rw [← hAA, ← hT, ← hE] at hC ⊢
    clear F K hb hl c0 c1 f1 hblk hl16 e1 e2 hlj ht hw hAA hT hE
    obtain ⟨wh, mm⟩ := t
    cases wh <;> simp only [rdF, rdV, ptrV, itf] at hC a3
    all_goals (try have hM := HSK _ rfl)
    all_goals
      clear HSK
      have HC := hide hC
      clear hC
      go_enter Tryz.func18, Tryz.ntmps18
      go_wp2_with fail
      refine (unhide HR).mono ?_
      rintro e w1 ⟨rfl, hw⟩
      subst hw
      go_wp2_with fail
      refine (unhide HC).mono ?_
      rintro e w1 ⟨rfl, h1⟩
      clear HC HR
      go_wp2_with fail
      go_ret2
      obtain ⟨H', m1, m2, m3⟩ := unhide h1
      exact ⟨rfl, hide ⟨H', ⟨m1, m2⟩, m3⟩⟩

end Go.Proofs.YtemologkibcdoaaGreatDoor

/- Numbers of open files: Write, Close, Dup of a set. -/
namespace Go.Proofs.YtemologkibcdoaaGreatDoor
open Go.RowKit Go.Maps

set_option maxRecDepth 20000 in
set_option maxHeartbeats 4000000 in
theorem swrite_any {w : World} {f q nb n x : Nat} {B : Bas} {Z : Nat → Prop} {A : AS} {sb : List Nat} {H : Hp} {L : Fay} (F : FH w f q Z A nb n B x sb H L) {k b : Nat} {l : List (Option Nat)} (hb : sb[k]? = some b) (hl : A.st[k]? = some l) (K : AOk A n) (hn : n ≤ 9000) (fd : Int) (d : List UInt8) (hd : d.length ≤ 100000) : Calls Tryz.prog 19 #[.pointer (some ⟨b, 0, none⟩), .int .i64 fd, .string (BA d)] w fun e w' => ∃ N E, e = .returned (.tuple #[.int .i64 N, .int .i64 E]) ∧ Hid (∃ A' H', WrtA A nb k fd d N E A' ∧ FH w' f q Z A' nb (n + 1) B x sb H' L ∧ AOk A' (n + 1)) := by
  obtain ⟨c0, c1, f1, hblk, hl16⟩ := F.setCell hb hl
  have HR := hide (srefuse_any hblk hl16 fd)
  rcases ref_cases hl16 fd with ⟨e1, e2⟩ | ⟨e1, j, i, rfl, hj, hlj, e2⟩
  · rw [e1] at HR
    have HF := hide (show ∃ A' H', WrtA A nb k fd d 0 28 A' ∧ FH w f q Z A' nb (n + 1) B x sb H' L ∧ AOk A' (n + 1) from ⟨A, H, .no (by rw [row_at hl]; exact e2), F.mono (Nat.le_succ _), K.mono (Nat.le_succ _)⟩)
    obtain ⟨T, hT⟩ : ∃ T, T = BA d := ⟨_, rfl⟩
    rw [← hT]
    clear F K hb hl c0 c1 f1 hblk hl16 e1 e2 hT
    go_enter Tryz.func19, Tryz.ntmps19
    go_wp2_with fail
    refine (unhide HR).mono ?_
    rintro e w1 ⟨rfl, hw⟩
    subst hw
    go_wp2_with fail
    go_ret2
    exact ⟨_, _, rfl, HF⟩
  · obtain ⟨t, ht, _, _, hw⟩ := K.at hl hlj
    rw [e1] at HR
    have d1 := c1 j hj
    rw [hlj] at d1
    replace d1 : w.cell? ⟨b, 1 + j, none⟩ = some (.pointer (some ⟨L.tb i, 0, none⟩)) := d1
    obtain ⟨a3, _, _⟩ := F.thCell ht
    have hj1 : (j : Int) < 16 := by omega
    have hj0 : (0 : Int) ≤ (j : Int) := by omega
    have hC := write1_any F.mx F.li K ht hn d hd
    have HTP : ∀ s, t.wh = .tape s → (method 390 90 (.pointer (some ⟨L.ob i, 0, none⟩)) "conch/fds.write").run Tryz.prog w = Result.ok (220, .agg #[]) w := fun s e => by
      have := F.li.ob i t ht
      rw [e] at this
      exact meth_tape (F.mx.blk _ _ this) 389
    have HB : Hid (∀ w' N E, (∃ A' H', WrWh A nb i d t.wh N E A' ∧ MX w' f q Z A'.s nb (n + 1) B H' ∧ Lies H' f x L sb A' (openA A) ∧ AOk A' (n + 1)) → ∃ A' H', WrtA A nb k (j : Int) d N E A' ∧ FH w' f q Z A' nb (n + 1) B x sb H' L ∧ AOk A' (n + 1)) := hide (fun w' N E h => by
      obtain ⟨A', H', h1, h2, h3, h4⟩ := h
      rw [← open_wrt ht h1] at h3
      exact ⟨A', H', .via i t N E A' (by rw [row_at hl]; exact e2) ht h1, ⟨h2, h3⟩, h4⟩)
    obtain ⟨T, hT⟩ : ∃ T, T = BA d := ⟨_, rfl⟩
    rw [← hT] at hC ⊢
    clear F K hb hl c0 c1 f1 hblk hl16 e1 e2 hlj ht hw hT
    obtain ⟨wh, mm⟩ := t
    cases wh <;> simp only [wrF, wrV, ptrV, itf] at hC a3
    all_goals (try have hM := HTP _ rfl)
    all_goals
      clear HTP
      have HC := hide hC
      clear hC
      go_enter Tryz.func19, Tryz.ntmps19
      go_wp2_with fail
      refine (unhide HR).mono ?_
      rintro e w1 ⟨rfl, hw⟩
      subst hw
      go_wp2_with fail
      refine (unhide HC).mono ?_
      rintro e w1 ⟨N, E, rfl, h1⟩
      have H1 := hide (unhide HB _ N E (unhide h1))
      clear HC HR h1 HB
      go_wp2_with fail
      go_ret2
      exact ⟨N, E, rfl, H1⟩
theorem drop_no {A : AS} {k : Nat} {fd : Int} (h : numL (row A k) fd = none) : dropA A k fd = A := by
  unfold dropA
  rw [h]
set_option maxRecDepth 20000 in
set_option maxHeartbeats 4000000 in
theorem sclose_any {w : World} {f q nb n x : Nat} {B : Bas} {Z : Nat → Prop} {A : AS} {sb : List Nat} {H : Hp} {L : Fay} (F : FH w f q Z A nb n B x sb H L) {k b : Nat} {l : List (Option Nat)} (hb : sb[k]? = some b) (hl : A.st[k]? = some l) (K : AOk A n) (hn : n ≤ 9000) (fd : Int) : Calls Tryz.prog 28 #[.pointer (some ⟨b, 0, none⟩), .int .i64 fd] w fun e w' => e = .returned (.int .i64 (refL (row A k) fd)) ∧ Hid (∃ H', FH w' f q Z (dropA A k fd) nb (n + 1) B x sb H' L ∧ AOk (dropA A k fd) (n + 1)) := by
  obtain ⟨c0, c1, f1, hblk, hl16⟩ := F.setCell hb hl
  have HR := hide (srefuse_any hblk hl16 fd)
  rw [row_at hl]
  rcases ref_cases hl16 fd with ⟨e1, e2⟩ | ⟨e1, j, i, rfl, hj, hlj, e2⟩
  · rw [drop_no (by rw [row_at hl]; exact e2), e1]
    rw [e1] at HR
    have HF := hide (show ∃ H', FH w f q Z A nb (n + 1) B x sb H' L ∧ AOk A (n + 1) from ⟨H, F.mono (Nat.le_succ _), K.mono (Nat.le_succ _)⟩)
    clear F K hb hl c0 c1 f1 hblk hl16 e1 e2
    go_enter Tryz.func28, Tryz.ntmps28
    go_wp2_with fail
    refine (unhide HR).mono ?_
    rintro e w1 ⟨rfl, hw⟩
    subst hw
    go_wp2_with fail
    go_ret
    exact ⟨rfl, HF⟩
  · obtain ⟨t, ht, h1, h2, hw⟩ := K.at hl hlj
    rw [e1] at HR ⊢
    have HC := hide (fdrop_any F hb hl hj hlj ht hw h1 (by omega) (by have := K.open; omega) hn)
    have HK := hide (ok_drop K hl hj hlj)
    clear F K hb hl c0 c1 f1 hblk hl16 e1 e2 hlj ht hw h1 h2
    go_enter Tryz.func28, Tryz.ntmps28
    go_wp2_with fail
    refine (unhide HR).mono ?_
    rintro e w1 ⟨rfl, hw⟩
    subst hw
    go_wp2_with fail
    refine (unhide HC).mono ?_
    rintro e w2 ⟨rfl, h1⟩
    clear HC HR
    go_wp2_with fail
    go_ret
    obtain ⟨H', m1⟩ := unhide h1
    exact ⟨rfl, hide ⟨H', m1, unhide HK⟩⟩
theorem drop_st {A : AS} {k fd i : Nat} {l : List (Option Nat)} {t : Th} (hl : A.st[k]? = some l) (hfd : fd < 16) (hf : l[fd]? = some (some i)) (ht : A.th[i]? = some t) : (dropA A k (fd : Int)).st = A.st.set k (l.set fd none) := by
  rw [drop_is hl hfd hf ht]
  have : ∀ m, (manyA (putA A k (fd : Int) none) i m).st = A.st.set k (l.set fd none) := fun m => by
    rw [(row_many _ i m).1]
    unfold putA
    rw [row_at hl, show (fd : Int).toNat = fd by omega]
  split
  · rw [close_st]
    exact this 0
  · exact this _
theorem setl_at {α : Type} {l : List α} {k : Nat} {a b : α} (h : l[k]? = some a) : (l.set k b)[k]? = some b := List.getElem?_set_self (List.getElem?_eq_some_iff.1 h).1
theorem fdrop_len {A : AS} (k : Nat) (fd : Int) : (dropA A k fd).th.length = A.th.length := by
  have hc : ∀ (A : AS) (i : Nat), (closeA A i).th.length = A.th.length := fun A i => by
    unfold closeA
    split
    · rfl
    · rename_i t ht
      obtain ⟨wh, m⟩ := t
      cases wh with
      | file y =>
        show (setWh A i _).th.length = _
        rw [setWh_th ht]
        simp
      | rd p => show (setPp A p _).th.length = _; unfold setPp; split <;> rfl
      | wr p => show (setPp A p _).th.length = _; unfold setPp; split <;> rfl
      | tape s => rfl
      | sink k => rfl
  unfold dropA
  split
  · rfl
  · split
    · rfl
    · split
      · rw [hc, (many_len _ _ _).1]
        rfl
      · rw [(many_len _ _ _).1]
        rfl
set_option maxRecDepth 20000 in
set_option maxHeartbeats 8000000 in
theorem sdup_any {w : World} {f q nb n x : Nat} {B : Bas} {Z : Nat → Prop} {A : AS} {sb : List Nat} {H : Hp} {L : Fay} (F : FH w f q Z A nb n B x sb H L) {k b : Nat} {l : List (Option Nat)} (hb : sb[k]? = some b) (hl : A.st[k]? = some l) (K : AOk A n) (hn : n ≤ 8000) (a c : Int) : Calls Tryz.prog 27 #[.pointer (some ⟨b, 0, none⟩), .int .i64 a, .int .i64 c] w fun e w' => e = .returned (.int .i64 (dupE A k a c)) ∧ Hid (∃ H', FH w' f q Z (dupA A k a c) nb (n + 2) B x sb H' L ∧ AOk (dupA A k a c) (n + 2)) := by
  obtain ⟨c0, c1, f1, hblk, hl16⟩ := F.setCell hb hl
  have HR := hide (srefuse_any hblk hl16 a)
  have HN := hide (isnum_any c w)
  unfold dupE dupA
  rw [row_at hl]
  have HF0 := hide (show ∃ H', FH w f q Z A nb (n + 2) B x sb H' L ∧ AOk A (n + 2) from ⟨H, F.mono (by omega), K.mono (by omega)⟩)
  rcases ref_cases hl16 a with ⟨e1, e2⟩ | ⟨e1, j, i, rfl, hj, hlj, e2⟩
  · rw [e2]
    rw [e1] at HR
    clear F K hb hl c0 c1 f1 hblk hl16 e1 e2 HN
    go_enter Tryz.func27, Tryz.ntmps27
    go_wp2_with fail
    refine (unhide HR).mono ?_
    rintro e w1 ⟨rfl, hw⟩
    subst hw
    go_wp2_with fail
    go_ret
    exact ⟨rfl, (by obtain ⟨H', h1, h2⟩ := unhide HF0; first | exact hide ⟨H', h1, h2⟩ | exact hide ⟨⟨H', h1⟩, h2⟩)⟩
  · rw [e2]
    dsimp only
    rw [e1] at HR
    have hs : (some i).isSome = true := rfl
    rw [hs, Bool.true_and]
    cases hf : fdOk c with
    | false =>
      rw [hf] at HN
      rw [Bool.false_and, if_neg (by decide), if_neg (by decide)]
      clear F K hb hl c0 c1 f1 hblk hl16 e1 e2 hf
      go_enter Tryz.func27, Tryz.ntmps27
      go_wp2_with fail
      refine (unhide HR).mono ?_
      rintro e w1 ⟨rfl, hw⟩
      subst hw
      go_wp2_with fail
      refine (unhide HN).mono ?_
      rintro e w1 ⟨rfl, hw⟩
      subst hw
      go_wp2_with fail
      go_ret
      exact ⟨rfl, (by obtain ⟨H', h1, h2⟩ := unhide HF0; first | exact hide ⟨H', h1, h2⟩ | exact hide ⟨⟨H', h1⟩, h2⟩)⟩
    | true =>
      rw [hf] at HN
      rw [Bool.true_and, if_pos rfl]
      obtain ⟨m, rfl, hm, _⟩ := numL_ok (l := l) hf
      by_cases hjm : j = m
      · subst hjm
        rw [if_neg (by simp)]
        clear F K hb hl c0 c1 f1 hblk hl16 e1 e2 hf
        go_enter Tryz.func27, Tryz.ntmps27
        go_wp2_with fail
        refine (unhide HR).mono ?_
        rintro e w1 ⟨rfl, hw⟩
        subst hw
        go_wp2_with fail
        refine (unhide HN).mono ?_
        rintro e w1 ⟨rfl, hw⟩
        subst hw
        go_wp2_with fail
        go_ret
        exact ⟨rfl, (by obtain ⟨H', h1, h2⟩ := unhide HF0; first | exact hide ⟨H', h1, h2⟩ | exact hide ⟨⟨H', h1⟩, h2⟩)⟩
      · have hne : ((j : Int) == (m : Int)) = false := by simp; omega
        rw [if_pos (by simp; omega)]
        obtain ⟨t, ht, ht1, ht2, htw⟩ := K.at hl hlj
        have d1 := c1 j hj
        rw [hlj] at d1
        replace d1 : w.cell? ⟨b, 1 + j, none⟩ = some (.pointer (some ⟨L.tb i, 0, none⟩)) := d1
        have d2 := c1 m hm
        have hj1 : (j : Int) < 16 := by omega
        have hj0 : (0 : Int) ≤ (j : Int) := by omega
        have hm1 : (m : Int) < 16 := by omega
        have hm0 : (0 : Int) ≤ (m : Int) := by omega
        obtain ⟨o, ho⟩ : ∃ o, l[m]? = some o := ⟨_, List.getElem?_eq_getElem (by omega)⟩
        cases o with
        | none =>
          rw [ho] at d2
          replace d2 : w.cell? ⟨b, 1 + m, none⟩ = some (.pointer none) := d2
          rw [drop_no (A := A) (k := k) (fd := (m : Int)) (by rw [row_at hl]; exact numL_at hm ho)]
          have HT := hide (ftake_any F hb hl hm ht (by omega) (by have := K.open; omega))
          have HK := hide ((ok_take K hl ho ht).mono (show n + 1 ≤ n + 2 by omega))
          clear F K hb hl c0 c1 f1 hblk hl16 e1 e2 hf hlj ho ht ht1 ht2 htw HF0
          go_enter Tryz.func27, Tryz.ntmps27
          go_wp2_with fail
          refine (unhide HR).mono ?_
          rintro e w1 ⟨rfl, hw⟩
          subst hw
          go_wp2_with fail
          refine (unhide HN).mono ?_
          rintro e w1 ⟨rfl, hw⟩
          subst hw
          go_wp2_with fail
          refine (unhide HT).mono ?_
          rintro e w2 ⟨rfl, h1⟩
          clear HT HR HN
          go_wp2_with fail
          go_ret
          obtain ⟨H', m1⟩ := unhide h1
          exact ⟨rfl, hide ⟨H', m1.mono (by omega), unhide HK⟩⟩
        | some i2 =>
          rw [ho] at d2
          replace d2 : w.cell? ⟨b, 1 + m, none⟩ = some (.pointer (some ⟨L.tb i2, 0, none⟩)) := d2
          obtain ⟨t2, hu, hu1, hu2, huw⟩ := K.at hl ho
          have K1 := ok_drop K hl hm ho
          have hst : (dropA A k (m : Int)).st[k]? = some (l.set m none) := by
            rw [drop_st hl hm ho hu]
            exact setl_at hl
          have hl2 : (l.set m none)[j]? = some (some i) := by rw [List.getElem?_set_ne (fun e => hjm e.symm)]; exact hlj
          have hl3 : (l.set m none)[m]? = some none := setl_at ho
          obtain ⟨t3, hv, hv1, hv2, hvw⟩ := K1.at hst hl2
          have HD := hide (fdrop_any F hb hl hm ho hu huw hu1 (by omega) (by have := K.open; omega) (by omega))
          have HT : Hid (∀ w1, (∃ H', FH w1 f q Z (dropA A k (m : Int)) nb (n + 1) B x sb H' L) → w1.cell? ⟨b, 1 + j, none⟩ = some (.pointer (some ⟨L.tb i, 0, none⟩)) ∧ Calls Tryz.prog 34 #[.pointer (some ⟨b, 0, none⟩), .int .i64 (m : Int), .pointer (some ⟨L.tb i, 0, none⟩)] w1 fun e w' => e = .returned (.tuple #[]) ∧ Hid (∃ H', FH w' f q Z (takeA (dropA A k (m : Int)) k (m : Int) i) nb (n + 1) B x sb H' L)) := hide (fun w1 h => by
            obtain ⟨H1, F1⟩ := h
            have e3 := (F1.setCell hb hst).2.1 j hj
            rw [hl2] at e3
            exact ⟨e3, ftake_any F1 hb hst hm hv (by omega) (by have := K1.open; omega)⟩)
          have HK := hide (ok_take K1 hst hl3 hv)
          clear F K hb hl c0 c1 f1 hblk hl16 e1 e2 hf hlj ho ht ht1 ht2 htw HF0 hu hu1 hu2 huw hv hv1 hv2 hvw K1 hst hl2 hl3
          go_enter Tryz.func27, Tryz.ntmps27
          go_wp2_with fail
          refine (unhide HR).mono ?_
          rintro e w1 ⟨rfl, hw⟩
          subst hw
          go_wp2_with fail
          refine (unhide HN).mono ?_
          rintro e w1 ⟨rfl, hw⟩
          subst hw
          go_wp2_with fail
          refine (unhide HD).mono ?_
          rintro e w2 ⟨rfl, h1⟩
          obtain ⟨d4, HT2⟩ := unhide HT w2 (unhide h1)
          have HT3 := hide HT2
          clear HT HD HR HN h1 HT2
          go_wp2_with fail
          refine (unhide HT3).mono ?_
          rintro e w3 ⟨rfl, h1⟩
          clear HT3
          go_wp2_with fail
          go_ret
          obtain ⟨H', m1⟩ := unhide h1
          exact ⟨rfl, hide ⟨H', m1.mono (by omega), unhide HK⟩⟩

end Go.Proofs.YtemologkibcdoaaGreatDoor

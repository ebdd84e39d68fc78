/-
  A table that a call made and holds; the chapter's examples.
-/
import Derived.Test.YtcfhgjlihifmnaaIDrop
import Derived.Test.YtcfhgjlihifmnaaINew
import Derived.Test.YtcfhgjlihifmnaaIRead2
import Derived.Test.YtcfhgjlihifmnaaIWr
import Derived.Test.YtcfhgjlihifmnaaICut
import Derived.Test.YtcfhgjlihifmnaaICopy
namespace Go.Proofs.Ytcfhgjlihifmnaa
open Go.RowKit Go.Maps

/-- In W, which came of w, the table at p has T; its blocks are newer than w; no node has more than n names or users. -/
structure Hd (w W : World) (p : Nat) (T : TB) (nb n : Nat) : Prop where
  at' : TAt W p (fun k => w.heap.size ≤ k) T nb
  bel : Below w.heap.size w W
  gd : TGood T n
theorem Hd.turn {w W W' : World} {p nb n n' : Nat} {T T' : TB} (H : Hd w W p T nb n) (h1 : TAt W' p (fun k => w.heap.size ≤ k) T' nb) (h2 : GrownS W W' (fun k => w.heap.size ≤ k)) (h3 : TGood T' n') : Hd w W' p T' nb n' :=
  ⟨h1, H.bel.trans (h2.below H.bel.size (fun _ e => e)), h3⟩
theorem Hd.below {w W W' : World} {p nb n : Nat} {T : TB} (H : Hd w W p T nb n) (hb : Below W.heap.size W W') : Hd w W' p T nb n :=
  ⟨H.at'.below hb, H.bel.trans (hb.mono H.bel.size), H.gd⟩
theorem Hd.mono {w W : World} {p nb n m : Nat} {T : TB} (H : Hd w W p T nb n) (h : n ≤ m) : Hd w W p T nb m := ⟨H.at', H.bel, H.gd.mono h⟩
theorem Hd.size {w W : World} {p nb n : Nat} {T : TB} (H : Hd w W p T nb n) : ∀ (k : Nat) (x : Nd), T[k]? = some (some x) → x.size ≤ 4096 := fun k x hx => (H.gd k x hx).1.size
theorem good_ties {x : Nd} (h : x.Good) {x' : Nd} (h1 : x'.kind = x.kind) (h2 : x'.size = x.size) (h3 : x'.byt = x.byt) (h4 : x'.has = x.has) : x'.Good :=
  ⟨by rw [h1]; exact h.kind1, by rw [h1]; exact h.kind3, by rw [h2]; exact h.size, by rw [h2, h3]; exact h.zero, by rw [h2, h4]; exact h.has⟩
theorem good_new (n m : Nat) : TGood (List.replicate n none) m := fun i x h => by
  rw [List.getElem?_replicate] at h
  split at h
  · injection h with h
    cases h
  · cases h
theorem good_make {T : TB} {n : Nat} (h : TGood T n) (k : Int) : TGood (makeT T k) n := by
  unfold makeT
  split
  · rename_i hk
    rw [Bool.and_eq_true] at hk
    exact h.set _ (fun x hx => by injection hx with hx; subst hx; exact ⟨nd0_good hk.1, Nat.zero_le _, Nat.zero_le _⟩)
  · exact h
theorem good_tie {T : TB} {n : Nat} (h : TGood T n) (i : Int) : TGood (tieT T i) (n + 1) := by
  unfold tieT
  cases hx : ndAt T i with
  | none => exact h.mono (Nat.le_succ _)
  | some x =>
    obtain ⟨k, _, hk, _⟩ := ndAt_some hx
    have g := h k x hk
    exact (h.mono (Nat.le_succ _)).set _ (fun y hy => by injection hy with hy; subst hy; exact ⟨good_ties g.1 rfl rfl rfl rfl, Nat.succ_le_succ g.2.1, Nat.le_succ_of_le g.2.2⟩)
theorem good_hold {T : TB} {n : Nat} (h : TGood T n) (i : Int) : TGood (holdT T i) (n + 1) := by
  unfold holdT
  cases hx : ndAt T i with
  | none => exact h.mono (Nat.le_succ _)
  | some x =>
    obtain ⟨k, _, hk, _⟩ := ndAt_some hx
    have g := h k x hk
    exact (h.mono (Nat.le_succ _)).set _ (fun y hy => by injection hy with hy; subst hy; exact ⟨good_ties g.1 rfl rfl rfl rfl, Nat.le_succ_of_le g.2.1, Nat.succ_le_succ g.2.2⟩)
theorem good_unt {T : TB} {n : Nat} (h : TGood T n) (i : Int) : TGood (untT T i) n := by
  unfold untT
  cases hx : ndAt T i with
  | none => exact h
  | some x =>
    obtain ⟨k, _, hk, _⟩ := ndAt_some hx
    have g := h k x hk
    dsimp only
    split
    · exact h
    · refine h.set _ (fun y hy => ?_)
      unfold leftN at hy
      split at hy
      · cases hy
      · injection hy with hy
        subst hy
        exact ⟨good_ties g.1 rfl rfl rfl rfl, Nat.le_trans (Nat.sub_le _ _) g.2.1, g.2.2⟩
theorem good_loo {T : TB} {n : Nat} (h : TGood T n) (i : Int) : TGood (looT T i) n := by
  unfold looT
  cases hx : ndAt T i with
  | none => exact h
  | some x =>
    obtain ⟨k, _, hk, _⟩ := ndAt_some hx
    have g := h k x hk
    dsimp only
    split
    · exact h
    · refine h.set _ (fun y hy => ?_)
      unfold leftN at hy
      split at hy
      · cases hy
      · injection hy with hy
        subst hy
        exact ⟨good_ties g.1 rfl rfl rfl rfl, g.2.1, Nat.le_trans (Nat.sub_le _ _) g.2.2⟩
theorem good_cut {T : TB} {n : Nat} (h : TGood T n) (i s : Int) : TGood (cutT T i s) n := by
  unfold cutT
  cases hx : ndAt T i with
  | none => exact h
  | some x =>
    obtain ⟨k, _, hk, _⟩ := ndAt_some hx
    have g := h k x hk
    dsimp only
    split
    · exact h
    · exact h.set _ (fun y hy => by injection hy with hy; subst hy; exact ⟨g.1.cut (by omega), g.2⟩)
theorem good_wr {T T' : TB} {n free : Nat} (h : TGood T n) {i a N E : Int} {d : List UInt8} (hw : WrSp T free i a d N E T') : TGood T' n := by
  cases hw with
  | none => exact h
  | arg => exact h
  | empty => exact h
  | big => exact h
  | space => exact h
  | done x at' m hx _ _ _ _ hp =>
    obtain ⟨k, _, hk, _⟩ := ndAt_some hx
    have g := h k x hk
    exact h.set _ (fun y hy => by injection hy with hy; subst hy; exact ⟨g.1.put hp.max, g.2⟩)

theorem new_hd (n b : Nat) (w W : World) (hb : Below w.heap.size w W) (h1 : 1 ≤ n) (h2 : n ≤ 1024) (h3 : 1 ≤ b) (h4 : b ≤ 4096) : Calls Try.prog 9 #[.int .i64 (n : Int), .int .i64 (b : Int)] W fun e w' => ∃ p, e = .returned (.tuple #[.pointer (some ⟨p, 0, none⟩), .int .i64 0]) ∧ Hid (Hd w w' p (List.replicate n none) b 0 ∧ Below W.heap.size W w' ∧ TAt w' p (fun k => W.heap.size ≤ k) (List.replicate n none) b) :=
  (tnew_any n b W h1 h2 h3 h4).mono fun _ _ ⟨p, e1, e2, e3⟩ => ⟨p, e1, hide ⟨⟨e2.mono (fun _ _ hk => Nat.le_trans hb.size hk), hb.trans (e3.mono hb.size), good_new _ _⟩, e3, e2⟩⟩
theorem make_hd {w W : World} {p nb n : Nat} {T : TB} (H : Hd w W p T nb n) (k : Int) : Calls Try.prog 25 #[.pointer (some ⟨p, 0, none⟩), .int .i64 k] W fun e w' => e = .returned (.tuple #[.int .i64 (makeN T k), .int .i64 (makeE T k)]) ∧ Hid (Hd w w' p (makeT T k) nb n) :=
  (tmake_any H.at' k (fun _ hj => Nat.le_trans H.bel.size hj)).mono fun _ _ ⟨e1, e2, e3⟩ => ⟨e1, hide (H.turn e2 e3 (good_make H.gd k))⟩
theorem tie_hd {w W : World} {p nb n : Nat} {T : TB} (H : Hd w W p T nb n) (hn : n ≤ 1000000) (i : Int) (hb : -9223372036854775808 ≤ i ∧ i ≤ 9223372036854775807) : Calls Try.prog 15 #[.pointer (some ⟨p, 0, none⟩), .int .i64 i] W fun e w' => e = .returned (.int .i64 (tieE T i)) ∧ Hid (Hd w w' p (tieT T i) nb (n + 1)) :=
  (ttie_any H.at' i hb (fun k x hx => Nat.le_trans (H.gd k x hx).2.1 hn)).mono fun _ _ ⟨e1, e2, e3⟩ => ⟨e1, hide (H.turn e2 e3 (good_tie H.gd i))⟩
theorem hold_hd {w W : World} {p nb n : Nat} {T : TB} (H : Hd w W p T nb n) (hn : n ≤ 1000000) (i : Int) (hb : -9223372036854775808 ≤ i ∧ i ≤ 9223372036854775807) : Calls Try.prog 26 #[.pointer (some ⟨p, 0, none⟩), .int .i64 i] W fun e w' => e = .returned (.int .i64 (tieE T i)) ∧ Hid (Hd w w' p (holdT T i) nb (n + 1)) :=
  (thold_any H.at' i hb (fun k x hx => Nat.le_trans (H.gd k x hx).2.2 hn)).mono fun _ _ ⟨e1, e2, e3⟩ => ⟨e1, hide (H.turn e2 e3 (good_hold H.gd i))⟩
theorem untie_hd {w W : World} {p nb n : Nat} {T : TB} (H : Hd w W p T nb n) (hn : n ≤ 1000000) (i : Int) (hb : -9223372036854775808 ≤ i ∧ i ≤ 9223372036854775807) : Calls Try.prog 27 #[.pointer (some ⟨p, 0, none⟩), .int .i64 i] W fun e w' => e = .returned (.int .i64 (untE T i)) ∧ Hid (Hd w w' p (untT T i) nb n) :=
  (tuntie_any H.at' i hb (fun k x hx => Nat.le_trans (H.gd k x hx).2.1 hn)).mono fun _ _ ⟨e1, e2, e3⟩ => ⟨e1, hide (H.turn e2 e3 (good_unt H.gd i))⟩
theorem loose_hd {w W : World} {p nb n : Nat} {T : TB} (H : Hd w W p T nb n) (hn : n ≤ 1000000) (i : Int) (hb : -9223372036854775808 ≤ i ∧ i ≤ 9223372036854775807) : Calls Try.prog 28 #[.pointer (some ⟨p, 0, none⟩), .int .i64 i] W fun e w' => e = .returned (.int .i64 (looE T i)) ∧ Hid (Hd w w' p (looT T i) nb n) :=
  (tloose_any H.at' i hb (fun k x hx => Nat.le_trans (H.gd k x hx).2.2 hn)).mono fun _ _ ⟨e1, e2, e3⟩ => ⟨e1, hide (H.turn e2 e3 (good_loo H.gd i))⟩
theorem read_hd {w W : World} {p nb n : Nat} {T : TB} (H : Hd w W p T nb n) (i a k : Int) (hb : -9223372036854775808 ≤ i ∧ i ≤ 9223372036854775807) (ha : a ≤ 9223372036854775807) : Calls Try.prog 24 #[.pointer (some ⟨p, 0, none⟩), .int .i64 i, .int .i64 a, .int .i64 k] W fun e w' => e = .returned (.tuple #[.string (BA (rdT T i a k)), .int .i64 (rdE T i a k)]) ∧ Hid (Hd w w' p T nb n ∧ Below W.heap.size W w') :=
  (tread_any H.at' H.size i a k hb ha).mono fun _ _ ⟨e1, e2⟩ => ⟨e1, hide ⟨H.below e2, e2⟩⟩
theorem write_hd {w W : World} {p nb n : Nat} {T : TB} (H : Hd w W p T nb n) (i a : Int) (d : List UInt8) (hb : -9223372036854775808 ≤ i ∧ i ≤ 9223372036854775807) (ha : a ≤ 9223372036854775807) (hd : d.length ≤ 1000000) : Calls Try.prog 14 #[.pointer (some ⟨p, 0, none⟩), .int .i64 i, .int .i64 a, .string (BA d)] W fun e w' => ∃ N E : Int, e = .returned (.tuple #[.int .i64 N, .int .i64 E]) ∧ Hid (∃ T', WrSp T (nb - usedT T) i a d N E T' ∧ Hd w w' p T' nb n) :=
  (twrite_any H.at' H.size i a d hb ha hd).mono fun _ _ ⟨N, E, e1, T', e2, e3, e4⟩ => ⟨N, E, e1, hide ⟨T', e2, H.turn e3 e4 (good_wr H.gd e2)⟩⟩
theorem cut_hd {w W : World} {p nb n : Nat} {T : TB} (H : Hd w W p T nb n) (i s : Int) (hb : -9223372036854775808 ≤ i ∧ i ≤ 9223372036854775807) : Calls Try.prog 29 #[.pointer (some ⟨p, 0, none⟩), .int .i64 i, .int .i64 s] W fun e w' => e = .returned (.int .i64 (cutE T i s)) ∧ Hid (Hd w w' p (cutT T i s) nb n) :=
  (tcut_any H.at' i s hb).mono fun _ _ ⟨e1, e2, e3⟩ => ⟨e1, hide (H.turn e2 e3 (good_cut H.gd i s))⟩
theorem kind_hd {w W : World} {p nb n : Nat} {T : TB} (H : Hd w W p T nb n) (i : Int) (hb : -9223372036854775808 ≤ i ∧ i ≤ 9223372036854775807) : Calls Try.prog 21 #[.pointer (some ⟨p, 0, none⟩), .int .i64 i] W fun e w' => e = .returned (.int .i64 (kindOf (ndAt T i) : Int)) ∧ w' = W := by
  obtain ⟨L, HL, _⟩ := H.at'
  exact tkind_any HL i hb
theorem size_hd {w W : World} {p nb n : Nat} {T : TB} (H : Hd w W p T nb n) (i : Int) (hb : -9223372036854775808 ≤ i ∧ i ≤ 9223372036854775807) : Calls Try.prog 22 #[.pointer (some ⟨p, 0, none⟩), .int .i64 i] W fun e w' => e = .returned (.int .i64 (sizeOfN (ndAt T i) : Int)) ∧ w' = W := by
  obtain ⟨L, HL, _⟩ := H.at'
  exact tsize_any HL i hb
theorem links_hd {w W : World} {p nb n : Nat} {T : TB} (H : Hd w W p T nb n) (i : Int) (hb : -9223372036854775808 ≤ i ∧ i ≤ 9223372036854775807) : Calls Try.prog 23 #[.pointer (some ⟨p, 0, none⟩), .int .i64 i] W fun e w' => e = .returned (.int .i64 (namesOf (ndAt T i) : Int)) ∧ w' = W := by
  obtain ⟨L, HL, _⟩ := H.at'
  exact tlinks_any HL i hb
theorem free_hd {w W : World} {p nb n : Nat} {T : TB} (H : Hd w W p T nb n) : Calls Try.prog 19 #[.pointer (some ⟨p, 0, none⟩)] W fun e w' => e = .returned (.tuple #[.int .i64 (freeT T : Int), .int .i64 ((nb - usedT T : Nat) : Int)]) ∧ w' = W := tfree_any H.at'

theorem aw_make : makeN [none, none] 1 = 1 ∧ makeE [none, none] 1 = 0 ∧ makeT [none, none] 1 = [some (nd0 1), none] := ⟨by decide, by decide, rfl⟩
theorem aw_write {N E : Int} {T' : TB} (h : WrSp [some (nd0 1), none] (2 - usedT [some (nd0 1), none]) 1 100 [120] N E T') : N = 1 ∧ E = 0 ∧ T' = [some (putN (nd0 1) 100 [120] 1), none] := by
  have hx0 : ndAt [some (nd0 1), none] 1 = some (nd0 1) := rfl
  cases h with
  | none h => rw [hx0] at h; cases h
  | arg x _ h => omega
  | empty x _ _ h => cases h
  | big x _ h => omega
  | space x at' hx ha _ _ hp =>
    rw [hx0] at hx
    injection hx with hx
    subst hx
    obtain rfl : at' = 100 := by omega
    rcases hp.ends with e | ⟨e, _⟩
    · cases e
    · exact absurd e (by decide)
  | done x at' n hx ha _ _ hn hp =>
    rw [hx0] at hx
    injection hx with hx
    subst hx
    obtain rfl : at' = 100 := by omega
    have := hp.le
    obtain rfl : n = 1 := by simp at this; omega
    exact ⟨rfl, rfl, rfl⟩
set_option maxRecDepth 20000 in
set_option maxHeartbeats 1000000 in
theorem awake_any (w : World) : Calls Try.prog 11 #[] w fun e w' => e = .returned (.bool true) ∧ Below w.heap.size w w' := by
  have HNW := hide (new_hd 2 2 w w (Below.refl _ _) (by decide) (by decide) (by decide) (by decide))
  go_enter Try.func11, Try.ntmps11
  go_wp2_with fail
  refine (unhide HNW).mono ?_
  rintro e w1 ⟨p, rfl, k1, _⟩
  have K1 : Hid (Hd w w1 p [none, none] 2 0) := hide k1
  clear k1 HNW
  go_wp2_with fail
  refine (make_hd (unhide K1) 1).mono ?_
  rw [aw_make.1, aw_make.2.1, aw_make.2.2]
  rintro e w2 ⟨rfl, K2⟩
  clear K1
  go_wp2_with fail
  refine (write_hd (unhide K2) 1 100 [120] (by decide) (by decide) (by decide)).mono ?_
  rintro e w3 ⟨N, E, rfl, T', hT, k3⟩
  obtain ⟨rfl, rfl, rfl⟩ := aw_write hT
  have K3 := hide k3
  clear hT k3 K2
  go_wp2_with fail
  refine (free_hd (unhide K3)).mono ?_
  rw [show (2 - usedT [some (putN (nd0 1) 100 [120] 1), none] : Nat) = 1 by decide]
  rintro e w4 ⟨rfl, hw⟩
  rw [show w4 = w3 from hw]
  clear hw
  go_wp2_with fail
  refine (size_hd (unhide K3) 1 (by decide)).mono ?_
  rw [show sizeOfN (ndAt [some (putN (nd0 1) 100 [120] 1), none] 1) = 101 by decide]
  rintro e w4 ⟨rfl, hw⟩
  rw [show w4 = w3 from hw]
  clear hw
  go_wp2_with fail
  refine (tie_hd (unhide K3) (by decide) 1 (by decide)).mono ?_
  rw [show tieE [some (putN (nd0 1) 100 [120] 1), none] 1 = 0 by rfl, show tieT [some (putN (nd0 1) 100 [120] 1), none] 1 = [some (tieN (putN (nd0 1) 100 [120] 1)), none] by rfl]
  rintro e w4 ⟨rfl, K4⟩
  clear K3
  go_wp2_with fail
  refine (untie_hd (unhide K4) (by decide) 1 (by decide)).mono ?_
  rw [show untE [some (tieN (putN (nd0 1) 100 [120] 1)), none] 1 = 0 by rfl, show untT [some (tieN (putN (nd0 1) 100 [120] 1)), none] 1 = [none, none] by rfl]
  rintro e w5 ⟨rfl, K5⟩
  clear K4
  go_wp2_with fail
  refine (free_hd (unhide K5)).mono ?_
  rw [show (2 - usedT [none, none] : Nat) = 2 by decide]
  rintro e w6 ⟨rfl, hw⟩
  rw [show w6 = w5 from hw]
  clear hw
  go_wp2_with fail
  refine (kind_hd (unhide K5) 1 (by decide)).mono ?_
  rw [show kindOf (ndAt [none, none] 1) = 0 by decide]
  rintro e w6 ⟨rfl, hw⟩
  rw [show w6 = w5 from hw]
  clear hw
  go_wp2
  go_ret
  exact ⟨rfl, (unhide K5).bel⟩

end Go.Proofs.Ytcfhgjlihifmnaa

/-
  A call of the law's: do.
-/
import Derived.Test.YtcfhgjlihifmnaaIStart
namespace Go.Proofs.Ytcfhgjlihifmnaa
open Go.RowKit Go.Maps

/-- What a call answers, and what it leaves. -/
inductive DoSp (T : TB) (free : Nat) (o : Op12) : Int → List UInt8 → Int → TB → Prop
  | make : o.ask = 0 → DoSp T free o (makeN T o.n) [] (makeE T o.n) (makeT T o.n)
  | tie : o.ask = 1 → DoSp T free o 0 [] (tieE T o.b) (tieT T o.b)
  | untie : o.ask = 2 → DoSp T free o 0 [] (untE T o.b) (untT T o.b)
  | hold : o.ask = 3 → DoSp T free o 0 [] (tieE T o.b) (holdT T o.b)
  | loose : o.ask = 4 → DoSp T free o 0 [] (looE T o.b) (looT T o.b)
  | read : o.ask = 5 → DoSp T free o 0 (rdT T o.b o.at' o.n) (rdE T o.b o.at' o.n) T
  | write (N E : Int) (T' : TB) : o.ask = 6 → WrSp T free o.b o.at' o.data N E T' → DoSp T free o N [] E T'
  | cut : o.ask ≠ 0 → o.ask ≠ 1 → o.ask ≠ 2 → o.ask ≠ 3 → o.ask ≠ 4 → o.ask ≠ 5 → o.ask ≠ 6 → DoSp T free o 0 [] (cutE T o.b o.n) (cutT T o.b o.n)
theorem good_do {T T' : TB} {n free : Nat} {o : Op12} {N E : Int} {s : List UInt8} (h : TGood T n) (hd : DoSp T free o N s E T') : TGood T' (n + 1) := by
  cases hd with
  | make => exact (good_make h _).mono (Nat.le_succ _)
  | tie => exact good_tie h _
  | untie => exact (good_unt h _).mono (Nat.le_succ _)
  | hold => exact good_hold h _
  | loose => exact (good_loo h _).mono (Nat.le_succ _)
  | read => exact h.mono (Nat.le_succ _)
  | write _ _ _ _ hw => exact (good_wr h hw).mono (Nat.le_succ _)
  | cut => exact (good_cut h _ _).mono (Nat.le_succ _)
def opV (o : Op12) : Value := .agg #[.int .i64 o.ask, .int .i64 o.b, .int .i64 o.at', .int .i64 o.n, .string (BA o.data)]
/-- What do leaves. -/
def DoL (w w' : World) (p nb : Nat) (X : Nat → Prop) (T : TB) (o : Op12) (N : Int) (s : List UInt8) (E : Int) : Prop := ∃ T', DoSp T (nb - usedT T) o N s E T' ∧ TAt w' p X T' nb ∧ GrownS w w' X
set_option maxRecDepth 20000 in
set_option maxHeartbeats 2000000 in
theorem do_any {w : World} {p nb n : Nat} {X : Nat → Prop} {T : TB} (H : TAt w p X T nb) (hgd : TGood T n) (hn : n ≤ 1000000) (hX : ∀ j, w.heap.size ≤ j → X j) (o : Op12) (ho : o.ok) (hd : o.data.length ≤ 5000) :
    Calls Try.prog 16 #[.pointer (some ⟨p, 0, none⟩), .agg #[.int .i64 o.ask, .int .i64 o.b, .int .i64 o.at', .int .i64 o.n, .string (BA o.data)]] w fun e w' => ∃ (N : Int) (s : List UInt8) (E : Int), e = .returned (.tuple #[.int .i64 N, .string (BA s), .int .i64 E]) ∧ Hid (DoL w w' p nb X T o N s E) := by
  obtain ⟨W, hW⟩ : ∃ W, W = w.alloc (.cells #[.int .i64 o.ask, .int .i64 o.b, .int .i64 o.at', .int .i64 o.n, .string (BA o.data)] 33) := ⟨_, rfl⟩
  have hb0 : Below w.heap.size w W := by rw [hW]; exact (Below.refl _ _).alloc (Nat.le_refl _) _
  have HT := H.below hb0
  have hX2 : ∀ j, W.heap.size ≤ j → X j := fun j hj => hX j (Nat.le_trans hb0.size hj)
  have hg0 : GrownS w W X := grownS_of_below hb0
  have hsz : ∀ (k : Nat) (x : Nd), T[k]? = some (some x) → x.size ≤ 4096 := fun k x hx => (hgd k x hx).1.size
  have hnm : ∀ (k : Nat) (x : Nd), T[k]? = some (some x) → x.names ≤ 1000000 := fun k x hx => Nat.le_trans (hgd k x hx).2.1 hn
  have hus : ∀ (k : Nat) (x : Nd), T[k]? = some (some x) → x.users ≤ 1000000 := fun k x hx => Nat.le_trans (hgd k x hx).2.2 hn
  obtain ⟨ho1, ho2, ho3, ho4⟩ := ho
  have k0 : Blk W w.heap.size 33 #[.int .i64 o.ask, .int .i64 o.b, .int .i64 o.at', .int .i64 o.n, .string (BA o.data)] := by rw [hW]; exact Blk.new _ _ _
  have M0 : Hid (Calls Try.prog 25 #[.pointer (some ⟨p, 0, none⟩), .int .i64 o.n] W fun e w' => ∃ N E : Int, e = .returned (.tuple #[.int .i64 N, .int .i64 E]) ∧ (o.ask = 0 → Hid (DoL w w' p nb X T o N [] E))) := hide ((tmake_any HT o.n hX2).mono fun e w' ⟨h1, h2, h3⟩ => ⟨_, _, h1, fun h => hide ⟨_, .make h, h2, hg0.trans h3⟩⟩)
  have M1 : Hid (Calls Try.prog 15 #[.pointer (some ⟨p, 0, none⟩), .int .i64 o.b] W fun e w' => ∃ E : Int, e = .returned (.int .i64 E) ∧ (o.ask = 1 → Hid (DoL w w' p nb X T o 0 [] E))) := hide ((ttie_any HT o.b ho2 hnm).mono fun e w' ⟨h1, h2, h3⟩ => ⟨_, h1, fun h => hide ⟨_, .tie h, h2, hg0.trans h3⟩⟩)
  have M2 : Hid (Calls Try.prog 27 #[.pointer (some ⟨p, 0, none⟩), .int .i64 o.b] W fun e w' => ∃ E : Int, e = .returned (.int .i64 E) ∧ (o.ask = 2 → Hid (DoL w w' p nb X T o 0 [] E))) := hide ((tuntie_any HT o.b ho2 hnm).mono fun e w' ⟨h1, h2, h3⟩ => ⟨_, h1, fun h => hide ⟨_, .untie h, h2, hg0.trans h3⟩⟩)
  have M3 : Hid (Calls Try.prog 26 #[.pointer (some ⟨p, 0, none⟩), .int .i64 o.b] W fun e w' => ∃ E : Int, e = .returned (.int .i64 E) ∧ (o.ask = 3 → Hid (DoL w w' p nb X T o 0 [] E))) := hide ((thold_any HT o.b ho2 hus).mono fun e w' ⟨h1, h2, h3⟩ => ⟨_, h1, fun h => hide ⟨_, .hold h, h2, hg0.trans h3⟩⟩)
  have M4 : Hid (Calls Try.prog 28 #[.pointer (some ⟨p, 0, none⟩), .int .i64 o.b] W fun e w' => ∃ E : Int, e = .returned (.int .i64 E) ∧ (o.ask = 4 → Hid (DoL w w' p nb X T o 0 [] E))) := hide ((tloose_any HT o.b ho2 hus).mono fun e w' ⟨h1, h2, h3⟩ => ⟨_, h1, fun h => hide ⟨_, .loose h, h2, hg0.trans h3⟩⟩)
  have M5 : Hid (Calls Try.prog 24 #[.pointer (some ⟨p, 0, none⟩), .int .i64 o.b, .int .i64 o.at', .int .i64 o.n] W fun e w' => ∃ (s : List UInt8) (E : Int), e = .returned (.tuple #[.string (BA s), .int .i64 E]) ∧ (o.ask = 5 → Hid (DoL w w' p nb X T o 0 s E))) := hide ((tread_any HT hsz o.b o.at' o.n ho2 ho3.2).mono fun e w' ⟨h1, h2⟩ => ⟨_, _, h1, fun h => hide ⟨_, .read h, HT.below h2, hg0.trans (grownS_of_below h2)⟩⟩)
  have M6 : Hid (Calls Try.prog 14 #[.pointer (some ⟨p, 0, none⟩), .int .i64 o.b, .int .i64 o.at', .string (BA o.data)] W fun e w' => ∃ N E : Int, e = .returned (.tuple #[.int .i64 N, .int .i64 E]) ∧ (o.ask = 6 → Hid (DoL w w' p nb X T o N [] E))) := hide ((twrite_any HT hsz o.b o.at' o.data ho2 ho3.2 (by omega)).mono fun e w' ⟨N, E, h1, T', h2, h3, h4⟩ => ⟨N, E, h1, fun h => hide ⟨T', .write N E T' h h2, h3, hg0.trans h4⟩⟩)
  have M7 : Hid (Calls Try.prog 29 #[.pointer (some ⟨p, 0, none⟩), .int .i64 o.b, .int .i64 o.n] W fun e w' => ∃ E : Int, e = .returned (.int .i64 E) ∧ ((o.ask ≠ 0 ∧ o.ask ≠ 1 ∧ o.ask ≠ 2 ∧ o.ask ≠ 3 ∧ o.ask ≠ 4 ∧ o.ask ≠ 5 ∧ o.ask ≠ 6) → Hid (DoL w w' p nb X T o 0 [] E))) := hide ((tcut_any HT o.b o.n ho2).mono fun e w' ⟨h1, h2, h3⟩ => ⟨_, h1, fun ⟨a0, a1, a2, a3, a4, a5, a6⟩ => hide ⟨_, .cut a0 a1 a2 a3 a4 a5 a6, h2, hg0.trans h3⟩⟩)
  obtain ⟨S, hS⟩ : ∃ S, S = BA o.data := ⟨_, rfl⟩
  rw [← hS] at hW M6 ⊢
  obtain ⟨PX, hPX⟩ : ∃ P : World → Int → List UInt8 → Int → Prop, P = fun w' N s E => DoL w w' p nb X T o N s E := ⟨_, rfl⟩
  have hPE : ∀ w' N s E, DoL w w' p nb X T o N s E = PX w' N s E := fun w' N s E => by rw [hPX]
  simp only [hPE] at M0 M1 M2 M3 M4 M5 M6 M7 ⊢
  obtain ⟨ask, hask⟩ : ∃ ask, ask = o.ask := ⟨_, rfl⟩
  obtain ⟨ib, hib⟩ : ∃ ib, ib = o.b := ⟨_, rfl⟩
  obtain ⟨ia, hia⟩ : ∃ ia, ia = o.at' := ⟨_, rfl⟩
  obtain ⟨inn, hin⟩ : ∃ inn, inn = o.n := ⟨_, rfl⟩
  rw [← hask, ← hib, ← hia, ← hin] at hW ⊢
  rw [← hask] at M0 M1 M2 M3 M4 M5 M6 M7
  rw [← hin] at M0
  rw [← hib] at M1 M2 M3 M4
  rw [← hib, ← hia, ← hin] at M5
  rw [← hib, ← hia] at M6
  rw [← hib, ← hin] at M7
  clear hS hPX hPE hask hib hia hin k0 hsz hnm hus HT hX2 hg0 hb0 H hgd hX ho1 ho2 ho3 ho4 hd
  rw [hW] at M0 M1 M2 M3 M4 M5 M6 M7
  clear hW
  by_cases h0 : ask = 0
  · subst h0
    go_enter Try.func16, Try.ntmps16
    go_wp2_with fail
    refine (unhide M0).mono ?_
    rintro e w1 ⟨N, E, rfl, hx⟩
    have HX := hx trivial
    clear hx
    go_wp2
    go_ret3
    exact ⟨N, [], E, rfl, HX⟩
  · have b0 : (ask == 0) = false := by simpa using h0
    by_cases h1 : ask = 1
    · subst h1
      go_enter Try.func16, Try.ntmps16
      go_wp2_with fail
      refine (unhide M1).mono ?_
      rintro e w1 ⟨E, rfl, hx⟩
      have HX := hx trivial
      clear hx
      go_wp2
      go_ret3
      exact ⟨0, [], E, rfl, HX⟩
    · have b1 : (ask == 1) = false := by simpa using h1
      by_cases h2 : ask = 2
      · subst h2
        go_enter Try.func16, Try.ntmps16
        go_wp2_with fail
        refine (unhide M2).mono ?_
        rintro e w1 ⟨E, rfl, hx⟩
        have HX := hx trivial
        clear hx
        go_wp2
        go_ret3
        exact ⟨0, [], E, rfl, HX⟩
      · have b2 : (ask == 2) = false := by simpa using h2
        by_cases h3 : ask = 3
        · subst h3
          go_enter Try.func16, Try.ntmps16
          go_wp2_with fail
          refine (unhide M3).mono ?_
          rintro e w1 ⟨E, rfl, hx⟩
          have HX := hx trivial
          clear hx
          go_wp2
          go_ret3
          exact ⟨0, [], E, rfl, HX⟩
        · have b3 : (ask == 3) = false := by simpa using h3
          by_cases h4 : ask = 4
          · subst h4
            go_enter Try.func16, Try.ntmps16
            go_wp2_with fail
            refine (unhide M4).mono ?_
            rintro e w1 ⟨E, rfl, hx⟩
            have HX := hx trivial
            clear hx
            go_wp2
            go_ret3
            exact ⟨0, [], E, rfl, HX⟩
          · have b4 : (ask == 4) = false := by simpa using h4
            by_cases h5 : ask = 5
            · subst h5
              go_enter Try.func16, Try.ntmps16
              go_wp2_with fail
              refine (unhide M5).mono ?_
              rintro e w1 ⟨s, E, rfl, hx⟩
              have HX := hx trivial
              clear hx
              go_wp2
              go_ret3
              exact ⟨0, s, E, rfl, HX⟩
            · have b5 : (ask == 5) = false := by simpa using h5
              by_cases h6 : ask = 6
              · subst h6
                go_enter Try.func16, Try.ntmps16
                go_wp2_with fail
                refine (unhide M6).mono ?_
                rintro e w1 ⟨N, E, rfl, hx⟩
                have HX := hx trivial
                clear hx
                go_wp2
                go_ret3
                exact ⟨N, [], E, rfl, HX⟩
              · have b6 : (ask == 6) = false := by simpa using h6
                have HN : Hid (ask ≠ 0 ∧ ask ≠ 1 ∧ ask ≠ 2 ∧ ask ≠ 3 ∧ ask ≠ 4 ∧ ask ≠ 5 ∧ ask ≠ 6) := hide ⟨h0, h1, h2, h3, h4, h5, h6⟩
                clear h0 h1 h2 h3 h4 h5 h6
                go_enter Try.func16, Try.ntmps16
                go_wp2_with fail
                refine (unhide M7).mono ?_
                rintro e w1 ⟨E, rfl, hx⟩
                have HX := hx (unhide HN)
                clear hx
                go_wp2
                go_ret3
                exact ⟨0, [], E, rfl, HX⟩

end Go.Proofs.Ytcfhgjlihifmnaa

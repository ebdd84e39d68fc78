/-
  A call of the law's, of the document's table: plain; both tables answer alike.
-/
import Derived.Test.YtcfhgjlihifmnaaIDo
import Derived.Test.YtcfhgjlihifmnaaIRef5
import Derived.Test.YtcfhgjlihifmnaaIRef6
import Derived.Test.YtcfhgjlihifmnaaIRef7
import Derived.Test.YtcfhgjlihifmnaaIRefW
import Derived.Test.YtcfhgjlihifmnaaIRefD
namespace Go.Proofs.Ytcfhgjlihifmnaa
open Go.RowKit Go.Maps

theorem WrSp.uniq {T T1 T2 : TB} {free : Nat} {i a N1 E1 N2 E2 : Int} {d : List UInt8} (h1 : WrSp T free i a d N1 E1 T1) (h2 : WrSp T free i a d N2 E2 T2) : N1 = N2 ∧ E1 = E2 ∧ T1 = T2 := by
  cases h1 with
  | none a1 =>
    cases h2 with
    | none => exact ⟨rfl, rfl, rfl⟩
    | arg x b1 => rw [a1] at b1; cases b1
    | empty x b1 => rw [a1] at b1; cases b1
    | big x b1 => rw [a1] at b1; cases b1
    | space x c b1 => rw [a1] at b1; cases b1
    | done x c m b1 => rw [a1] at b1; cases b1
  | arg x a1 a2 =>
    cases h2 with
    | none b1 => rw [a1] at b1; cases b1
    | arg => exact ⟨rfl, rfl, rfl⟩
    | empty y b1 b2 => omega
    | big y b1 b2 => omega
    | space y c b1 b2 => omega
    | done y c m b1 b2 => omega
  | empty x a1 a2 a3 =>
    cases h2 with
    | none b1 => rw [a1] at b1; cases b1
    | arg y b1 b2 => omega
    | empty => exact ⟨rfl, rfl, rfl⟩
    | big y b1 b2 b3 => exact absurd a3 b3
    | space y c b1 b2 b3 b4 => exact absurd a3 b4
    | done y c m b1 b2 b3 b4 => exact absurd a3 b4
  | big x a1 a2 a3 =>
    cases h2 with
    | none b1 => rw [a1] at b1; cases b1
    | arg y b1 b2 => omega
    | empty y b1 b2 b3 => exact absurd b3 a3
    | big => exact ⟨rfl, rfl, rfl⟩
    | space y c b1 b2 b3 => omega
    | done y c m b1 b2 b3 => omega
  | space x c a1 a2 a3 a4 a5 =>
    cases h2 with
    | none b1 => rw [a1] at b1; cases b1
    | arg y b1 b2 => omega
    | empty y b1 b2 b3 => exact absurd b3 a4
    | big y b1 b2 b3 => omega
    | space => exact ⟨rfl, rfl, rfl⟩
    | done y c' m b1 b2 b3 b4 b5 b6 =>
      obtain rfl : c = c' := by omega
      rw [a1] at b1
      injection b1 with b1
      subst b1
      have := a5.uniq b6
      omega
  | done x c m a1 a2 a3 a4 a5 a6 =>
    cases h2 with
    | none b1 => rw [a1] at b1; cases b1
    | arg y b1 b2 => omega
    | empty y b1 b2 b3 => exact absurd b3 a4
    | big y b1 b2 b3 => omega
    | space y c' b1 b2 b3 b4 b5 =>
      obtain rfl : c = c' := by omega
      rw [a1] at b1
      injection b1 with b1
      subst b1
      have := a6.uniq b5
      omega
    | done y c' m' b1 b2 b3 b4 b5 b6 =>
      obtain rfl : c = c' := by omega
      rw [a1] at b1
      injection b1 with b1
      subst b1
      obtain rfl := a6.uniq b6
      exact ⟨rfl, rfl, rfl⟩
theorem DoSp.uniq {T T1 T2 : TB} {free : Nat} {o : Op12} {N1 E1 N2 E2 : Int} {s1 s2 : List UInt8} (h1 : DoSp T free o N1 s1 E1 T1) (h2 : DoSp T free o N2 s2 E2 T2) : N1 = N2 ∧ s1 = s2 ∧ E1 = E2 ∧ T1 = T2 := by
  cases h1 <;> cases h2
  all_goals first
    | exact ⟨rfl, rfl, rfl, rfl⟩
    | (exfalso; omega)
    | (rename_i _ a1 _ a2; obtain ⟨e1, e2, e3⟩ := a1.uniq a2; exact ⟨e1, rfl, e2, e3⟩)
/-- What plain leaves. -/
def RDoL (w w' : World) (p nb : Nat) (X : Nat → Prop) (T : TB) (o : Op12) (N : Int) (s : List UInt8) (E : Int) : Prop := ∃ T', DoSp T (nb - usedT T) o N s E T' ∧ RAt w' p X T' nb ∧ GrownS w w' X
set_option maxRecDepth 20000 in
set_option maxHeartbeats 2000000 in
theorem plain_any {w : World} {p nb n : Nat} {X : Nat → Prop} {T : TB} (H : RAt w p X T nb) (hgd : TGood T n) (hn : n ≤ 1000000) (hub : usedT T ≤ nb) (hnb : nb ≤ 4096) (hX : ∀ j, w.heap.size ≤ j → X j) (o : Op12) (ho : o.ok) (hd : o.data.length ≤ 5000) :
    Calls Try.prog 17 #[.pointer (some ⟨p, 0, none⟩), .agg #[.int .i64 o.ask, .int .i64 o.b, .int .i64 o.at', .int .i64 o.n, .string (BA o.data)]] w fun e w' => ∃ (N : Int) (s : List UInt8) (E : Int), e = .returned (.tuple #[.int .i64 N, .string (BA s), .int .i64 E]) ∧ Hid (RDoL w w' p nb X T o N s E) := by
  obtain ⟨W, hW⟩ : ∃ W, W = w.alloc (.cells #[.int .i64 o.ask, .int .i64 o.b, .int .i64 o.at', .int .i64 o.n, .string (BA o.data)] 33) := ⟨_, rfl⟩
  have hb0 : Below w.heap.size w W := by rw [hW]; exact (Below.refl _ _).alloc (Nat.le_refl _) _
  have HT := H.below hb0
  have hX2 : ∀ j, W.heap.size ≤ j → X j := fun j hj => hX j (Nat.le_trans hb0.size hj)
  have hg0 : GrownS w W X := grownS_of_below hb0
  have hk1 : ∀ (k : Nat) (x : Nd), T[k]? = some (some x) → 1 ≤ x.kind := fun k x hx => (hgd k x hx).1.kind1
  have hgg : ∀ (k : Nat) (x : Nd), T[k]? = some (some x) → x.Good := fun k x hx => (hgd k x hx).1
  have hsz : ∀ (k : Nat) (x : Nd), T[k]? = some (some x) → 1 ≤ x.kind ∧ x.size ≤ 4096 := fun k x hx => ⟨(hgd k x hx).1.kind1, (hgd k x hx).1.size⟩
  have hnm : ∀ (k : Nat) (x : Nd), T[k]? = some (some x) → 1 ≤ x.kind ∧ x.names ≤ 1000000 := fun k x hx => ⟨(hgd k x hx).1.kind1, Nat.le_trans (hgd k x hx).2.1 hn⟩
  have hus : ∀ (k : Nat) (x : Nd), T[k]? = some (some x) → 1 ≤ x.kind ∧ x.users ≤ 1000000 := fun k x hx => ⟨(hgd k x hx).1.kind1, Nat.le_trans (hgd k x hx).2.2 hn⟩
  obtain ⟨ho1, ho2, ho3, ho4⟩ := ho
  have k0 : Blk W w.heap.size 33 #[.int .i64 o.ask, .int .i64 o.b, .int .i64 o.at', .int .i64 o.n, .string (BA o.data)] := by rw [hW]; exact Blk.new _ _ _
  have M0 : Hid (Calls Try.prog 35 #[.pointer (some ⟨p, 0, none⟩), .int .i64 o.n] W fun e w' => ∃ N E : Int, e = .returned (.tuple #[.int .i64 N, .int .i64 E]) ∧ (o.ask = 0 → Hid (RDoL w w' p nb X T o N [] E))) := hide ((rmake_any HT hk1 o.n hX2).mono fun e w' ⟨h1, h2, h3⟩ => ⟨_, _, h1, fun h => hide ⟨_, .make h, h2, hg0.trans h3⟩⟩)
  have M1 : Hid (Calls Try.prog 36 #[.pointer (some ⟨p, 0, none⟩), .int .i64 o.b] W fun e w' => ∃ E : Int, e = .returned (.int .i64 E) ∧ (o.ask = 1 → Hid (RDoL w w' p nb X T o 0 [] E))) := hide ((rtie_any HT hnm o.b ho2).mono fun e w' ⟨h1, h2, h3⟩ => ⟨_, h1, fun h => hide ⟨_, .tie h, h2, hg0.trans h3⟩⟩)
  have M2 : Hid (Calls Try.prog 37 #[.pointer (some ⟨p, 0, none⟩), .int .i64 o.b] W fun e w' => ∃ E : Int, e = .returned (.int .i64 E) ∧ (o.ask = 2 → Hid (RDoL w w' p nb X T o 0 [] E))) := hide ((runtie_any HT hnm o.b ho2).mono fun e w' ⟨h1, h2, h3⟩ => ⟨_, h1, fun h => hide ⟨_, .untie h, h2, hg0.trans h3⟩⟩)
  have M3 : Hid (Calls Try.prog 38 #[.pointer (some ⟨p, 0, none⟩), .int .i64 o.b] W fun e w' => ∃ E : Int, e = .returned (.int .i64 E) ∧ (o.ask = 3 → Hid (RDoL w w' p nb X T o 0 [] E))) := hide ((rhold_any HT hus o.b ho2).mono fun e w' ⟨h1, h2, h3⟩ => ⟨_, h1, fun h => hide ⟨_, .hold h, h2, hg0.trans h3⟩⟩)
  have M4 : Hid (Calls Try.prog 39 #[.pointer (some ⟨p, 0, none⟩), .int .i64 o.b] W fun e w' => ∃ E : Int, e = .returned (.int .i64 E) ∧ (o.ask = 4 → Hid (RDoL w w' p nb X T o 0 [] E))) := hide ((rloose_any HT hus o.b ho2).mono fun e w' ⟨h1, h2, h3⟩ => ⟨_, h1, fun h => hide ⟨_, .loose h, h2, hg0.trans h3⟩⟩)
  have M5 : Hid (Calls Try.prog 40 #[.pointer (some ⟨p, 0, none⟩), .int .i64 o.b, .int .i64 o.at', .int .i64 o.n] W fun e w' => ∃ (s : List UInt8) (E : Int), e = .returned (.tuple #[.string (BA s), .int .i64 E]) ∧ (o.ask = 5 → Hid (RDoL w w' p nb X T o 0 s E))) := hide ((rread_any HT hsz o.b o.at' o.n ho2 ho3.2).mono fun e w' ⟨h1, h2⟩ => ⟨_, _, h1, fun h => hide ⟨_, .read h, by rw [show w' = W from h2]; exact HT, by rw [show w' = W from h2]; exact hg0⟩⟩)
  have M6 : Hid (Calls Try.prog 41 #[.pointer (some ⟨p, 0, none⟩), .int .i64 o.b, .int .i64 o.at', .string (BA o.data)] W fun e w' => ∃ N E : Int, e = .returned (.tuple #[.int .i64 N, .int .i64 E]) ∧ (o.ask = 6 → Hid (RDoL w w' p nb X T o N [] E))) := hide ((rwrite_any HT hgg hub hnb o.b o.at' o.data ho2 ho3.2 hd).mono fun e w' ⟨N, E, h1, T', h2, h3, h4⟩ => ⟨N, E, h1, fun h => hide ⟨T', .write N E T' h h2, h3, hg0.trans h4⟩⟩)
  have M7 : Hid (Calls Try.prog 42 #[.pointer (some ⟨p, 0, none⟩), .int .i64 o.b, .int .i64 o.n] W fun e w' => ∃ E : Int, e = .returned (.int .i64 E) ∧ ((o.ask ≠ 0 ∧ o.ask ≠ 1 ∧ o.ask ≠ 2 ∧ o.ask ≠ 3 ∧ o.ask ≠ 4 ∧ o.ask ≠ 5 ∧ o.ask ≠ 6) → Hid (RDoL w w' p nb X T o 0 [] E))) := hide ((rcut_any HT hgg o.b o.n ho2).mono fun e w' ⟨h1, h2, h3⟩ => ⟨_, h1, fun ⟨a0, a1, a2, a3, a4, a5, a6⟩ => hide ⟨_, .cut a0 a1 a2 a3 a4 a5 a6, h2, hg0.trans h3⟩⟩)
  obtain ⟨S, hS⟩ : ∃ S, S = BA o.data := ⟨_, rfl⟩
  rw [← hS] at hW M6 ⊢
  obtain ⟨PX, hPX⟩ : ∃ P : World → Int → List UInt8 → Int → Prop, P = fun w' N s E => RDoL w w' p nb X T o N s E := ⟨_, rfl⟩
  have hPE : ∀ w' N s E, RDoL w w' p nb X T o N s E = PX w' N s E := fun w' N s E => by rw [hPX]
  simp only [hPE] at M0 M1 M2 M3 M4 M5 M6 M7 ⊢
  obtain ⟨ask, hask⟩ : ∃ ask, ask = o.ask := ⟨_, rfl⟩
  obtain ⟨ib, hib⟩ : ∃ ib, ib = o.b := ⟨_, rfl⟩
  obtain ⟨ia, hia⟩ : ∃ ia, ia = o.at' := ⟨_, rfl⟩
  obtain ⟨inn, hin⟩ : ∃ inn, inn = o.n := ⟨_, rfl⟩
  rw [← hask, ← hib, ← hia, ← hin] at hW ⊢
  rw [← hask] at M0 M1 M2 M3 M4 M5 M6 M7
  rw [← hin] at M0
  rw [← hib] at M1 M2 M3 M4
  rw [← hib, ← hia, ← hin] at M5
  rw [← hib, ← hia] at M6
  rw [← hib, ← hin] at M7
  clear hS hPX hPE hask hib hia hin k0 hsz hk1 hgg hnm hus HT hX2 hg0 hb0 H hgd hX ho1 ho2 ho3 ho4 hd
  rw [hW] at M0 M1 M2 M3 M4 M5 M6 M7
  clear hW
  by_cases h0 : ask = 0
  · subst h0
    go_enter Try.func17, Try.ntmps17
    go_wp2_with fail
    refine (unhide M0).mono ?_
    rintro e w1 ⟨N, E, rfl, hx⟩
    have HX := hx trivial
    clear hx
    go_wp2
    go_ret3
    exact ⟨N, [], E, rfl, HX⟩
  · have b0 : (ask == 0) = false := by simpa using h0
    by_cases h1 : ask = 1
    · subst h1
      go_enter Try.func17, Try.ntmps17
      go_wp2_with fail
      refine (unhide M1).mono ?_
      rintro e w1 ⟨E, rfl, hx⟩
      have HX := hx trivial
      clear hx
      go_wp2
      go_ret3
      exact ⟨0, [], E, rfl, HX⟩
    · have b1 : (ask == 1) = false := by simpa using h1
      by_cases h2 : ask = 2
      · subst h2
        go_enter Try.func17, Try.ntmps17
        go_wp2_with fail
        refine (unhide M2).mono ?_
        rintro e w1 ⟨E, rfl, hx⟩
        have HX := hx trivial
        clear hx
        go_wp2
        go_ret3
        exact ⟨0, [], E, rfl, HX⟩
      · have b2 : (ask == 2) = false := by simpa using h2
        by_cases h3 : ask = 3
        · subst h3
          go_enter Try.func17, Try.ntmps17
          go_wp2_with fail
          refine (unhide M3).mono ?_
          rintro e w1 ⟨E, rfl, hx⟩
          have HX := hx trivial
          clear hx
          go_wp2
          go_ret3
          exact ⟨0, [], E, rfl, HX⟩
        · have b3 : (ask == 3) = false := by simpa using h3
          by_cases h4 : ask = 4
          · subst h4
            go_enter Try.func17, Try.ntmps17
            go_wp2_with fail
            refine (unhide M4).mono ?_
            rintro e w1 ⟨E, rfl, hx⟩
            have HX := hx trivial
            clear hx
            go_wp2
            go_ret3
            exact ⟨0, [], E, rfl, HX⟩
          · have b4 : (ask == 4) = false := by simpa using h4
            by_cases h5 : ask = 5
            · subst h5
              go_enter Try.func17, Try.ntmps17
              go_wp2_with fail
              refine (unhide M5).mono ?_
              rintro e w1 ⟨s, E, rfl, hx⟩
              have HX := hx trivial
              clear hx
              go_wp2
              go_ret3
              exact ⟨0, s, E, rfl, HX⟩
            · have b5 : (ask == 5) = false := by simpa using h5
              by_cases h6 : ask = 6
              · subst h6
                go_enter Try.func17, Try.ntmps17
                go_wp2_with fail
                refine (unhide M6).mono ?_
                rintro e w1 ⟨N, E, rfl, hx⟩
                have HX := hx trivial
                clear hx
                go_wp2
                go_ret3
                exact ⟨N, [], E, rfl, HX⟩
              · have b6 : (ask == 6) = false := by simpa using h6
                have HN : Hid (ask ≠ 0 ∧ ask ≠ 1 ∧ ask ≠ 2 ∧ ask ≠ 3 ∧ ask ≠ 4 ∧ ask ≠ 5 ∧ ask ≠ 6) := hide ⟨h0, h1, h2, h3, h4, h5, h6⟩
                clear h0 h1 h2 h3 h4 h5 h6
                go_enter Try.func17, Try.ntmps17
                go_wp2_with fail
                refine (unhide M7).mono ?_
                rintro e w1 ⟨E, rfl, hx⟩
                have HX := hx (unhide HN)
                clear hx
                go_wp2
                go_ret3
                exact ⟨0, [], E, rfl, HX⟩

end Go.Proofs.Ytcfhgjlihifmnaa

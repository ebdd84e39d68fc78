/-
  The contracts of 'class' and 'cut'.
-/
import Derived.Test.YtegaonlpbcpobaaRng
namespace Go.Proofs.Ytegaonlpbcpobaa
open Go.RowKit

/-- The first place from k on, before n, at which p holds; n, if there is none. -/
def findFrom (p : Nat → Bool) (n : Nat) : Nat → Nat → Nat
  | 0, _ => n
  | f + 1, k => if k < n then (if p k then k else findFrom p n f (k + 1)) else n
theorem findFrom_step {p : Nat → Bool} {n F k : Nat} (hk : k < n) (h : p k = false) : findFrom p n (F + 1) k = findFrom p n F (k + 1) := by rw [findFrom, if_pos hk, if_neg (by simp [h])]
theorem findFrom_hit {p : Nat → Bool} {n F k : Nat} (hk : k < n) (h : p k = true) : findFrom p n (F + 1) k = k := by rw [findFrom, if_pos hk, if_pos h]
theorem findFrom_le {p : Nat → Bool} {n : Nat} : ∀ F k, k ≤ n → k ≤ findFrom p n F k ∧ findFrom p n F k ≤ n
  | 0, k, h => by rw [findFrom]; omega
  | F + 1, k, h => by
    rw [findFrom]
    split
    · split
      · omega
      · have := findFrom_le (p := p) (n := n) F (k + 1) (by omega)
        omega
    · omega

/-- Where the class ends whose first byte is at k: the place of its ']', or the text's length. -/
def classEnd (s : ByteArray) (q : List Bool) (k : Nat) : Nat := findFrom (fun j => plainF s q j 93) s.size (s.size - (k + 1)) (k + 1)
/-- The class's first byte, its '[' being at k. -/
def classAt (s : ByteArray) (q : List Bool) (k : Nat) : Nat := if plainF s q (k + 1) 33 then k + 2 else k + 1

/-- The token at k, and where the next one begins. -/
def cutT (s : ByteArray) (q : List Bool) (k : Nat) : Tok × Nat :=
  if plainF s q k 63 then (⟨2, 0, false, []⟩, k + 1)
  else if plainF s q k 42 then (⟨3, 0, false, []⟩, k + 1)
  else if plainF s q k 91 && decide (classEnd s q (classAt s q k) < s.size) then
    (⟨4, 0, plainF s q (k + 1) 33, rangesL s q (classEnd s q (classAt s q k) - classAt s q k) (classAt s q k) (classEnd s q (classAt s q k))⟩, classEnd s q (classAt s q k) + 1)
  else (⟨1, sb s k, false, []⟩, k + 1)

/-- 'last' is where the last plain ']' is, or -1. -/
def IsLast (s : ByteArray) (q : List Bool) (last : Int) : Prop := -1 ≤ last ∧ last < s.size ∧ (∀ k : Nat, (k : Int) = last → plainF s q k 93 = true) ∧ ∀ k : Nat, last < k → plainF s q k 93 = false

theorem findFrom_none {p : Nat → Bool} {n : Nat} : ∀ F k, (∀ j, k ≤ j → p j = false) → findFrom p n F k = n
  | 0, _, _ => rfl
  | F + 1, k, h => by
    rw [findFrom]
    split
    · rw [if_neg (by simp [h k (Nat.le_refl _)])]
      exact findFrom_none F (k + 1) (fun j hj => h j (by omega))
    · rfl
theorem findFrom_some {p : Nat → Bool} {n m : Nat} (hm : p m = true) (hmn : m < n) : ∀ F k, k ≤ m → n - k ≤ F → findFrom p n F k ≤ m
  | 0, k, h1, h2 => by omega
  | F + 1, k, h1, h2 => by
    rw [findFrom, if_pos (by omega)]
    split
    · exact h1
    · next hp =>
      have : k ≠ m := fun e => hp (by rw [e]; exact hm)
      exact findFrom_some hm hmn F (k + 1) (by omega) (by omega)

/-- The class does not end just if no plain ']' lies behind its first byte. -/
theorem classEnd_last {s : ByteArray} {q : List Bool} {last : Int} (h : IsLast s q last) (k : Nat) : classEnd s q k < s.size ↔ (k : Int) < last := by
  obtain ⟨h1, h2, h3, h4⟩ := h
  constructor
  · intro hlt
    refine Classical.byContradiction fun hn => ?_
    have : classEnd s q k = s.size := findFrom_none _ _ (fun j hj => h4 j (by omega))
    omega
  · intro hlt
    obtain ⟨m, hm⟩ : ∃ m : Nat, (m : Int) = last := ⟨last.toNat, by omega⟩
    have := findFrom_some (p := fun j => plainF s q j 93) (n := s.size) (h3 m hm) (by omega) (s.size - (k + 1)) (k + 1) (by omega) (Nat.le_refl _)
    unfold classEnd
    omega

theorem RowR.nil (n : Nat) (W : World) : RowR n W (.slice none 0 0) [] := ⟨_, _, rfl, Nat.le_refl _, by simp, .inl rfl⟩

theorem results_cell3 {fn : Func} {t u v : Tmp} (h : fn.results = #[.cell t 47, .tmp u, .tmp v]) (tmps : Array Value) (w : World) (b : Nat) (x0 x1 x2 x3 : Value) (ht : tmps.getD t undef = .pointer (some ⟨b, 0, none⟩))
    (h0 : w.cell? ⟨b, 0, none⟩ = some x0) (h1 : w.cell? ⟨b, 1, none⟩ = some x1) (h2 : w.cell? ⟨b, 2, none⟩ = some x2) (h3 : w.cell? ⟨b, 3, none⟩ = some x3) :
    (results fn tmps).run Try.prog w = .ok (.tuple #[.agg #[x0, x1, x2, x3], tmps.getD u undef, tmps.getD v undef]) w := by
  have ht' : tmps[t]?.getD undef = .pointer (some ⟨b, 0, none⟩) := by simpa using ht
  unfold results
  rw [h]
  simp [ht', go_sem, h0, h1, h2, h3]
theorem results_cell2 {fn : Func} {t u : Tmp} (h : fn.results = #[.cell t 47, .tmp u]) (tmps : Array Value) (w : World) (b : Nat) (x0 x1 x2 x3 : Value) (ht : tmps.getD t undef = .pointer (some ⟨b, 0, none⟩))
    (h0 : w.cell? ⟨b, 0, none⟩ = some x0) (h1 : w.cell? ⟨b, 1, none⟩ = some x1) (h2 : w.cell? ⟨b, 2, none⟩ = some x2) (h3 : w.cell? ⟨b, 3, none⟩ = some x3) :
    (results fn tmps).run Try.prog w = .ok (.tuple #[.agg #[x0, x1, x2, x3], tmps.getD u undef]) w := by
  have ht' : tmps[t]?.getD undef = .pointer (some ⟨b, 0, none⟩) := by simpa using ht
  unfold results
  rw [h]
  simp [ht', go_sem, h0, h1, h2, h3]

set_option maxHeartbeats 2000000 in
theorem class_none (n pb : Nat) (s : ByteArray) (a : Option Addr) (cap : Nat) (q : List Bool) (last : Int) (k : Nat) (w : World) (hp : PatAt n w pb s a cap q last) (hs : s.size ≤ 100000) (hn : n ≤ w.heap.size) (hL : IsLast s q last) (hk : k < s.size)
    (he : ¬ classEnd s q (classAt s q k) < s.size) :
    Calls Try.prog 38 #[.pointer (some ⟨pb, 0, none⟩), .int .i64 ((k : Int) + 1)] w fun e w' => e = .returned (.tuple #[.agg #[.int .i64 0, .int .u8 0, .bool false, .slice none 0 0], .int .i64 0, .bool false]) ∧ Below w.heap.size w w' := by
  rw [classEnd_last hL] at he
  have HP : Hid (PatAt n (w.alloc (.cells #[.int .i64 0, .int .u8 0, .bool false, .slice none 0 0] 47)) pb s a cap q last) := hide (hp.of_below ((Below.refl _ w).alloc (Nat.le_refl _) _) hn hp.lt)
  have p2 := (unhide HP).p2
  have hpb := hp.lt
  have hl0 := hL.1
  have hl1 := hL.2.1
  clear hp hL
  go_enter Try.func38, Try.ntmps38
  go_wp2_with fail
  have hpa := plain_any n pb s a cap q last (k + 1) 33 _ (unhide HP) hs
  rw [show ((k + 1 : Nat) : Int) = (k : Int) + 1 by omega] at hpa
  refine hpa.mono ?_
  rintro e w1 ⟨rfl, hw1⟩
  subst hw1
  unfold classAt at he
  rcases Bool.eq_false_or_eq_true (plainF s q (k + 1) 33) with hb | hb
  · rw [hb]
    rw [if_pos hb] at he
    have he' : last ≤ (k : Int) + 2 := by omega
    go_wp2_with fail
    refine bodyPost_ret (results_cell3 rfl _ _ w.heap.size (.int .i64 0) (.int .u8 0) (.bool false) (.slice none 0 0) rfl (by go_simp) (by go_simp) (by go_simp) (by go_simp)) rfl ?_
    exact ⟨rfl, (Below.refl _ _).alloc (Nat.le_refl _) _⟩
  · rw [hb]
    rw [if_neg (by simp [hb])] at he
    have he' : last ≤ (k : Int) + 1 := by omega
    go_wp2_with fail
    refine bodyPost_ret (results_cell3 rfl _ _ w.heap.size (.int .i64 0) (.int .u8 0) (.bool false) (.slice none 0 0) rfl (by go_simp) (by go_simp) (by go_simp) (by go_simp)) rfl ?_
    exact ⟨rfl, (Below.refl _ _).alloc (Nat.le_refl _) _⟩

theorem ownR_below {W W' : World} {base : Nat} {v : Value} {rs : List (Int × Int)} (h : OwnR W base v rs) (hb : Below W.heap.size W W') : OwnR W' base v rs := ownsRow_below h hb
theorem ownR_base {W : World} {base base' : Nat} {v : Value} {rs : List (Int × Int)} (h : OwnR W base v rs) (hb : base' ≤ base) : OwnR W base' v rs := by
  obtain ⟨h1, h2 | ⟨g, cap, cur, hv, hg, hr⟩⟩ := h
  · exact ⟨h1, .inl h2⟩
  · exact ⟨h1, .inr ⟨g, cap, cur, hv, by omega, hr⟩⟩
theorem ownR_turns {W W' : World} {base B m : Nat} {v : Value} {rs : List (Int × Int)} (h : OwnR W base v rs) (hb : Turns B m W W') (hB : B + m ≤ base) : OwnR W' base v rs := by
  obtain ⟨h1, h2 | ⟨g, cap, cur, hv, hg, hc, hr⟩⟩ := h
  · exact ⟨h1, .inl h2⟩
  · exact ⟨h1, .inr ⟨g, cap, cur, hv, hg, (hb.block g (Array.getElem?_eq_some_iff.1 hc).1 (by omega)).trans hc, hr⟩⟩
theorem heap_new (w : World) (o : Obj) : (w.alloc o).heap[w.heap.size]? = some o := by
  show (w.heap.push o)[w.heap.size]? = some o
  simp
theorem free_blk {W : World} {b : Nat} {cs : Array Value} {t : TypeId} (h : W.heap[b]? = some (.cells cs t)) : FreeAt W b := by
  intro j
  unfold World.frozen?
  simp only [h]
  simp
/-- A token stored at a block. -/
theorem turns_tok {w : World} {g : Nat} (x0 x1 x2 x3 : Value) : Turns g 1 w ((((w.setCell ⟨g, 0, none⟩ x0).setCell ⟨g, 1, none⟩ x1).setCell ⟨g, 2, none⟩ x2).setCell ⟨g, 3, none⟩ x3) :=
  ((((Turns.refl g 1 w).setCell (p := ⟨g, 0, none⟩) (Nat.le_refl _) (by simp) _).setCell (p := ⟨g, 1, none⟩) (Nat.le_refl _) (by simp) _).setCell (p := ⟨g, 2, none⟩) (Nat.le_refl _) (by simp) _).setCell (p := ⟨g, 3, none⟩) (Nat.le_refl _) (by simp) _
theorem ownR_shape {W : World} {base : Nat} {v : Value} {rs : List (Int × Int)} (h : OwnR W base v rs) : ∃ a cap, v = .slice a rs.length cap := by
  obtain ⟨_, ⟨rfl, h0⟩ | ⟨g, cap, cur, rfl, _⟩⟩ := h
  · exact ⟨none, 0, by rw [h0]⟩
  · exact ⟨_, _, rfl⟩

set_option maxHeartbeats 2000000 in
/-- From the class's first byte on: the walk behind the test for its end. -/
theorem class_some (n pb : Nat) (s : ByteArray) (a : Option Addr) (cap : Nat) (q : List Bool) (last : Int) (k : Nat) (w : World) (hp : PatAt n w pb s a cap q last) (hs : s.size ≤ 100000) (hn : n ≤ w.heap.size) (hL : IsLast s q last) (_hk : k < s.size)
    (he : classEnd s q (classAt s q k) < s.size) :
    Calls Try.prog 38 #[.pointer (some ⟨pb, 0, none⟩), .int .i64 ((k : Int) + 1)] w fun e w' => ∃ v, e = .returned (.tuple #[.agg #[.int .i64 4, .int .u8 0, .bool (plainF s q (k + 1) 33), v], .int .i64 ((classEnd s q (classAt s q k) : Nat) + 1), .bool true]) ∧
      OwnR w' w.heap.size v (rangesL s q (classEnd s q (classAt s q k) - classAt s q k) (classAt s q k) (classEnd s q (classAt s q k))) ∧ Below w.heap.size w w' := by
  have hel := (classEnd_last hL _).1 he
  have HP : Hid (PatAt n (w.alloc (.cells #[.int .i64 0, .int .u8 0, .bool false, .slice none 0 0] 47)) pb s a cap q last) := hide (hp.of_below ((Below.refl _ w).alloc (Nat.le_refl _) _) hn hp.lt)
  have p2 := (unhide HP).p2
  have hpb := hp.lt
  have hl1 := hL.2.1
  have HLAST := hide hL
  obtain ⟨at0, hat⟩ : ∃ x, x = classAt s q k := ⟨_, rfl⟩
  rw [← hat] at he hel ⊢
  have hle : at0 + 1 ≤ s.size := by omega
  have HE : Hid (classEnd s q at0 = findFrom (fun j => plainF s q j 93) s.size (s.size - (at0 + 1)) (at0 + 1)) := hide rfl
  obtain ⟨e0, he0⟩ : ∃ x, x = classEnd s q at0 := ⟨_, rfl⟩
  rw [← he0] at he HE ⊢
  have hlo := findFrom_le (p := fun j => plainF s q j 93) (n := s.size) (s.size - (at0 + 1)) (at0 + 1) hle
  rw [← unhide HE] at hlo
  clear he0 hp hL
  go_enter Try.func38, Try.ntmps38
  go_wp2_with fail
  have hpa := plain_any n pb s a cap q last (k + 1) 33 _ (unhide HP) hs
  rw [show ((k + 1 : Nat) : Int) = (k : Int) + 1 by omega] at hpa
  refine hpa.mono ?_
  rintro e w1 ⟨rfl, hw1⟩
  subst hw1
  clear hpa
  unfold classAt at hat
  rcases Bool.eq_false_or_eq_true (plainF s q (k + 1) 33) with hb | hb
  · rw [hb]
    rw [if_pos hb] at hat
    have hati : (k : Int) + 1 + 1 = (at0 : Int) := by omega
    clear hat
    go_wp2_with fail
    obtain ⟨W1, hW1⟩ : ∃ X, X = w.alloc (.cells #[.int .i64 0, .int .u8 0, .bool false, .slice none 0 0] 47) := ⟨_, rfl⟩
    have hB1 : Below w.heap.size w W1 := by rw [hW1]; exact (Below.refl _ w).alloc (Nat.le_refl _) _
    have hz1 : W1.heap.size = w.heap.size + 1 := by rw [hW1]; simp
    have c0 : W1.cell? ⟨w.heap.size, 0, none⟩ = some (.int .i64 0) := by rw [hW1]; go_simp
    have c1 : W1.cell? ⟨w.heap.size, 1, none⟩ = some (.int .u8 0) := by rw [hW1]; go_simp
    have c2 : W1.cell? ⟨w.heap.size, 2, none⟩ = some (.bool false) := by rw [hW1]; go_simp
    have c3 : W1.cell? ⟨w.heap.size, 3, none⟩ = some (.slice none 0 0) := by rw [hW1]; go_simp
    have f0 : FreeAt W1 w.heap.size := by rw [hW1]; exact free_blk (heap_new w _)
    rw [← hW1] at HP p2 ⊢
    have HB1 := hide hB1
    have HZ1 := hide hz1
    have HATI := hide hati
    clear hW1 hB1 hz1 hati p2
    go_loop [8] (fun i => ∃ (j F : Nat), i = .int .i64 (j : Int) ∧ at0 + 1 ≤ j ∧ j ≤ e0 ∧ s.size - j ≤ F ∧ e0 = findFrom (fun j => plainF s q j 93) s.size F j) (fun i => s.size - (intOf i).toNat)
    case atStart => exact ⟨at0 + 1, s.size - (at0 + 1), by go_num, Nat.le_refl _, hlo.1, Nat.le_refl _, unhide HE⟩
    case round =>
      obtain ⟨j, F, rfl, hj1, hj2, hF, hj3⟩ := hrel
      have HJ3 := hide hj3
      clear hj3
      cases F with
      | zero => omega
      | succ F =>
        go_wp2_with fail
        refine (plain_any n pb s a cap q last j 93 _ (unhide HP) hs).mono ?_
        rintro e w2 ⟨rfl, hw2⟩
        have hw3 := hw2.symm
        subst hw3
        clear hw2
        rcases Bool.eq_false_or_eq_true (plainF s q j 93) with hpj | hpj
        · rw [hpj]
          have hje : e0 = j := by have := unhide HJ3; rwa [findFrom_hit (by omega) hpj] at this
          subst hje
          go_wp2_with fail
          refine (ranges_any n pb s a cap q last at0 e0 W1 (unhide HP) hs (by have := unhide HZ1; omega) (by omega) (by omega)).mono ?_
          rintro e w3 ⟨v, rfl, ho, b3⟩
          have HO := hide ho
          obtain ⟨va, vc, rfl⟩ := ownR_shape ho
          have hz3 : w.heap.size < W1.heap.size := by have := unhide HZ1; omega
          have d0 := (b3.cell (p := ⟨w.heap.size, 0, none⟩) hz3).trans c0
          have d1 := (b3.cell (p := ⟨w.heap.size, 1, none⟩) hz3).trans c1
          have d2 := (b3.cell (p := ⟨w.heap.size, 2, none⟩) hz3).trans c2
          have d3 := (b3.cell (p := ⟨w.heap.size, 3, none⟩) hz3).trans c3
          have f1 := f0.of_block (b3.block _ hz3)
          have g0 := f1 0
          have g1 := f1 1
          have g2 := f1 2
          have g3 := f1 3
          have HB3 : Hid (Below w.heap.size w w3) := hide ((unhide HB1).trans (b3.mono (by omega)))
          clear b3 ho c0 c1 c2 c3 f0 f1
          go_wp2_with fail
          refine bodyPost_ret (results_cell3 rfl _ _ w.heap.size (.int .i64 4) (.int .u8 0) (.bool true) (.slice va (rangesL s q (e0 - at0) at0 e0).length vc) rfl (by go_simp) (by go_simp) (by go_simp) (by go_simp)) rfl ?_
          refine ⟨_, by rw [hb]; rfl, ?_, (unhide HB3).trans ((turns_tok _ _ _ _).below (Nat.le_refl _) (by have := (unhide HB3).size; omega))⟩
          exact ownR_base (ownR_turns (unhide HO) (turns_tok _ _ _ _) (by have := unhide HZ1; omega)) (by omega)
        · rw [hpj]
          go_wp2
          go_round
          case rel => exact ⟨j + 1, F, by go_num, by omega, by have := unhide HJ3; rw [findFrom_step (by omega) hpj] at this; have := findFrom_le (p := fun j => plainF s q j 93) (n := s.size) F (j + 1) (by omega); omega, by omega, by have := unhide HJ3; rwa [findFrom_step (by omega) hpj] at this⟩
          case measure => simp [intOf]; omega
  · rw [hb]
    rw [if_neg (by simp [hb])] at hat
    have hati : (k : Int) + 1 = (at0 : Int) := by omega
    clear hat
    go_wp2_with fail
    obtain ⟨W1, hW1⟩ : ∃ X, X = w.alloc (.cells #[.int .i64 0, .int .u8 0, .bool false, .slice none 0 0] 47) := ⟨_, rfl⟩
    have hB1 : Below w.heap.size w W1 := by rw [hW1]; exact (Below.refl _ w).alloc (Nat.le_refl _) _
    have hz1 : W1.heap.size = w.heap.size + 1 := by rw [hW1]; simp
    have c0 : W1.cell? ⟨w.heap.size, 0, none⟩ = some (.int .i64 0) := by rw [hW1]; go_simp
    have c1 : W1.cell? ⟨w.heap.size, 1, none⟩ = some (.int .u8 0) := by rw [hW1]; go_simp
    have c2 : W1.cell? ⟨w.heap.size, 2, none⟩ = some (.bool false) := by rw [hW1]; go_simp
    have c3 : W1.cell? ⟨w.heap.size, 3, none⟩ = some (.slice none 0 0) := by rw [hW1]; go_simp
    have f0 : FreeAt W1 w.heap.size := by rw [hW1]; exact free_blk (heap_new w _)
    rw [← hW1] at HP p2 ⊢
    have HB1 := hide hB1
    have HZ1 := hide hz1
    have HATI := hide hati
    clear hW1 hB1 hz1 hati p2
    go_loop [8] (fun i => ∃ (j F : Nat), i = .int .i64 (j : Int) ∧ at0 + 1 ≤ j ∧ j ≤ e0 ∧ s.size - j ≤ F ∧ e0 = findFrom (fun j => plainF s q j 93) s.size F j) (fun i => s.size - (intOf i).toNat)
    case atStart => exact ⟨at0 + 1, s.size - (at0 + 1), by go_num, Nat.le_refl _, hlo.1, Nat.le_refl _, unhide HE⟩
    case round =>
      obtain ⟨j, F, rfl, hj1, hj2, hF, hj3⟩ := hrel
      have HJ3 := hide hj3
      clear hj3
      cases F with
      | zero => omega
      | succ F =>
        go_wp2_with fail
        refine (plain_any n pb s a cap q last j 93 _ (unhide HP) hs).mono ?_
        rintro e w2 ⟨rfl, hw2⟩
        have hw3 := hw2.symm
        subst hw3
        clear hw2
        rcases Bool.eq_false_or_eq_true (plainF s q j 93) with hpj | hpj
        · rw [hpj]
          have hje : e0 = j := by have := unhide HJ3; rwa [findFrom_hit (by omega) hpj] at this
          subst hje
          go_wp2_with fail
          refine (ranges_any n pb s a cap q last at0 e0 W1 (unhide HP) hs (by have := unhide HZ1; omega) (by omega) (by omega)).mono ?_
          rintro e w3 ⟨v, rfl, ho, b3⟩
          have HO := hide ho
          obtain ⟨va, vc, rfl⟩ := ownR_shape ho
          have hz3 : w.heap.size < W1.heap.size := by have := unhide HZ1; omega
          have d0 := (b3.cell (p := ⟨w.heap.size, 0, none⟩) hz3).trans c0
          have d1 := (b3.cell (p := ⟨w.heap.size, 1, none⟩) hz3).trans c1
          have d2 := (b3.cell (p := ⟨w.heap.size, 2, none⟩) hz3).trans c2
          have d3 := (b3.cell (p := ⟨w.heap.size, 3, none⟩) hz3).trans c3
          have f1 := f0.of_block (b3.block _ hz3)
          have g0 := f1 0
          have g1 := f1 1
          have g2 := f1 2
          have g3 := f1 3
          have HB3 : Hid (Below w.heap.size w w3) := hide ((unhide HB1).trans (b3.mono (by omega)))
          clear b3 ho c0 c1 c2 c3 f0 f1
          go_wp2_with fail
          refine bodyPost_ret (results_cell3 rfl _ _ w.heap.size (.int .i64 4) (.int .u8 0) (.bool false) (.slice va (rangesL s q (e0 - at0) at0 e0).length vc) rfl (by go_simp) (by go_simp) (by go_simp) (by go_simp)) rfl ?_
          refine ⟨_, by rw [hb]; rfl, ?_, (unhide HB3).trans ((turns_tok _ _ _ _).below (Nat.le_refl _) (by have := (unhide HB3).size; omega))⟩
          exact ownR_base (ownR_turns (unhide HO) (turns_tok _ _ _ _) (by have := unhide HZ1; omega)) (by omega)
        · rw [hpj]
          go_wp2
          go_round
          case rel => exact ⟨j + 1, F, by go_num, by omega, by have := unhide HJ3; rw [findFrom_step (by omega) hpj] at this; have := findFrom_le (p := fun j => plainF s q j 93) (n := s.size) F (j + 1) (by omega); omega, by omega, by have := unhide HJ3; rwa [findFrom_step (by omega) hpj] at this⟩
          case measure => simp [intOf]; omega

set_option maxHeartbeats 4000000 in
theorem cut_any (n pb : Nat) (s : ByteArray) (a : Option Addr) (cap : Nat) (q : List Bool) (last : Int) (k : Nat) (w : World) (hp : PatAt n w pb s a cap q last) (hs : s.size ≤ 100000) (hn : n ≤ w.heap.size) (hL : IsLast s q last) (hk : k < s.size) :
    Calls Try.prog 34 #[.pointer (some ⟨pb, 0, none⟩), .int .i64 (k : Int)] w fun e w' => ∃ v, e = .returned (.tuple #[.agg #[.int .i64 (cutT s q k).1.kind, .int .u8 (cutT s q k).1.c, .bool (cutT s q k).1.nt, v], .int .i64 ((cutT s q k).2 : Nat)]) ∧
      OwnR w' w.heap.size v (cutT s q k).1.rs ∧ Below w.heap.size w w' := by
  obtain ⟨W1, hW1⟩ : ∃ X, X = w.alloc (.cells #[.int .i64 0, .int .u8 0, .bool false, .slice none 0 0] 47) := ⟨_, rfl⟩
  have hB1 : Below w.heap.size w W1 := by rw [hW1]; exact (Below.refl _ w).alloc (Nat.le_refl _) _
  have hz1 : W1.heap.size = w.heap.size + 1 := by rw [hW1]; simp
  have hz2 : w.heap.size ≤ W1.heap.size := by omega
  have hz3 : w.heap.size < W1.heap.size := by omega
  have c0 : W1.cell? ⟨w.heap.size, 0, none⟩ = some (.int .i64 0) := by rw [hW1]; go_simp
  have c1 : W1.cell? ⟨w.heap.size, 1, none⟩ = some (.int .u8 0) := by rw [hW1]; go_simp
  have c2 : W1.cell? ⟨w.heap.size, 2, none⟩ = some (.bool false) := by rw [hW1]; go_simp
  have c3 : W1.cell? ⟨w.heap.size, 3, none⟩ = some (.slice none 0 0) := by rw [hW1]; go_simp
  have f0 : FreeAt W1 w.heap.size := by rw [hW1]; exact free_blk (heap_new w _)
  have g0 := f0 0
  have g1 := f0 1
  have g2 := f0 2
  have g3 := f0 3
  have HF := hide f0
  have HP : Hid (PatAt n W1 pb s a cap q last) := hide (hp.of_below hB1 hn hp.lt)
  have p0 := (unhide HP).p0
  have HB1 := hide hB1
  have HLAST := hide hL
  have HZ1 := hide hz1
  have HW1 := hide hW1
  clear hp hL hB1 hz1 f0 hW1
  go_enter Try.func34, Try.ntmps34
  go_wp2_with fail
  rw [← unhide HW1]
  clear HW1
  rcases Bool.eq_false_or_eq_true (plainF s q k 63) with h63 | h63
  · have HC : Hid (cutT s q k = (⟨2, 0, false, []⟩, k + 1)) := hide (by unfold cutT; rw [if_pos h63])
    refine (plain_any n pb s a cap q last k 63 _ (unhide HP) hs).mono ?_
    rintro e w2 ⟨rfl, hw2⟩
    have hw3 := hw2.symm
    subst hw3
    clear hw2
    rw [h63]
    go_wp2_with fail
    refine bodyPost_ret (results_cell2 rfl _ _ w.heap.size (.int .i64 2) (.int .u8 0) (.bool false) (.slice none 0 0) rfl (by go_simp) (by go_simp) (by go_simp) (by go_simp)) rfl ?_
    refine ⟨.slice none 0 0, by rw [unhide HC]; rfl, ?_, (unhide HB1).trans ((turns_tok _ _ _ _).below (Nat.le_refl _) (by omega))⟩
    rw [unhide HC]
    exact World.ownsRow_nil _ _ _ _
  rcases Bool.eq_false_or_eq_true (plainF s q k 42) with h42 | h42
  · have HC : Hid (cutT s q k = (⟨3, 0, false, []⟩, k + 1)) := hide (by unfold cutT; rw [if_neg (by simp [h63]), if_pos h42])
    refine (plain_any n pb s a cap q last k 63 _ (unhide HP) hs).mono ?_
    rintro e w2 ⟨rfl, hw2⟩
    have hw3 := hw2.symm
    subst hw3
    clear hw2
    rw [h63]
    go_wp2_with fail
    refine (plain_any n pb s a cap q last k 42 _ (unhide HP) hs).mono ?_
    rintro e w2 ⟨rfl, hw2⟩
    have hw3 := hw2.symm
    subst hw3
    clear hw2
    rw [h42]
    go_wp2_with fail
    refine bodyPost_ret (results_cell2 rfl _ _ w.heap.size (.int .i64 3) (.int .u8 0) (.bool false) (.slice none 0 0) rfl (by go_simp) (by go_simp) (by go_simp) (by go_simp)) rfl ?_
    refine ⟨.slice none 0 0, by rw [unhide HC]; rfl, ?_, (unhide HB1).trans ((turns_tok _ _ _ _).below (Nat.le_refl _) (by omega))⟩
    rw [unhide HC]
    exact World.ownsRow_nil _ _ _ _
  rcases Bool.eq_false_or_eq_true (plainF s q k 91) with h91 | h91
  · by_cases he : classEnd s q (classAt s q k) < s.size
    · have HC : Hid (cutT s q k = (⟨4, 0, plainF s q (k + 1) 33, rangesL s q (classEnd s q (classAt s q k) - classAt s q k) (classAt s q k) (classEnd s q (classAt s q k))⟩, classEnd s q (classAt s q k) + 1)) := hide (by unfold cutT; rw [if_neg (by simp [h63]), if_neg (by simp [h42]), if_pos (by simp [h91, he])])
      refine (plain_any n pb s a cap q last k 63 _ (unhide HP) hs).mono ?_
      rintro e w2 ⟨rfl, hw2⟩
      have hw3 := hw2.symm
      subst hw3
      clear hw2
      rw [h63]
      go_wp2_with fail
      refine (plain_any n pb s a cap q last k 42 _ (unhide HP) hs).mono ?_
      rintro e w2 ⟨rfl, hw2⟩
      have hw3 := hw2.symm
      subst hw3
      clear hw2
      rw [h42]
      go_wp2_with fail
      refine (plain_any n pb s a cap q last k 91 _ (unhide HP) hs).mono ?_
      rintro e w2 ⟨rfl, hw2⟩
      have hw3 := hw2.symm
      subst hw3
      clear hw2
      rw [h91]
      go_wp2_with fail
      refine (class_some n pb s a cap q last k W1 (unhide HP) hs (by omega) (unhide HLAST) hk he).mono ?_
      rintro e w2 ⟨v, rfl, ho, b2⟩
      obtain ⟨va, vc, rfl⟩ := ownR_shape ho
      have HO := hide ho
      have hw21 := b2.size
      have hlt2 : w.heap.size < w2.heap.size := by omega
      have HB2 : Hid (Below w.heap.size w w2) := hide ((unhide HB1).trans (b2.mono hz2))
      obtain ⟨W3, hW3⟩ : ∃ X, X = w2.alloc (.cells #[.int .i64 4, .int .u8 0, .bool (plainF s q (k + 1) 33), .slice va (rangesL s q (classEnd s q (classAt s q k) - classAt s q k) (classAt s q k) (classEnd s q (classAt s q k))).length vc] 47) := ⟨_, rfl⟩
      have b3 : Below w2.heap.size w2 W3 := by rw [hW3]; exact (Below.refl _ w2).alloc (Nat.le_refl _) _
      have b13 := b2.trans (b3.mono hw21)
      have d0 := (b13.cell (p := ⟨w.heap.size, 0, none⟩) hz3).trans c0
      have d1 := (b13.cell (p := ⟨w.heap.size, 1, none⟩) hz3).trans c1
      have d2 := (b13.cell (p := ⟨w.heap.size, 2, none⟩) hz3).trans c2
      have d3 := (b13.cell (p := ⟨w.heap.size, 3, none⟩) hz3).trans c3
      have m0 := (b2.cell (p := ⟨w.heap.size, 0, none⟩) hz3).trans c0
      have y0 := ((unhide HF).of_block (b2.block _ hz3)) 0
      have m1 := (b2.cell (p := ⟨w.heap.size, 1, none⟩) hz3).trans c1
      have y1 := ((unhide HF).of_block (b2.block _ hz3)) 1
      have m2 := (b2.cell (p := ⟨w.heap.size, 2, none⟩) hz3).trans c2
      have y2 := ((unhide HF).of_block (b2.block _ hz3)) 2
      have m3 := (b2.cell (p := ⟨w.heap.size, 3, none⟩) hz3).trans c3
      have y3 := ((unhide HF).of_block (b2.block _ hz3)) 3
      have z0 := ((unhide HP).of_below b2 (by omega) (cell_lt p0)).p0
      have f3 := (unhide HF).of_block (b13.block _ hz3)
      have e0 := f3 0
      have e1 := f3 1
      have e2 := f3 2
      have e3 := f3 3
      have q0 := ((unhide HP).of_below b13 (by omega) (cell_lt p0)).p0
      rw [hW3] at d0 d1 d2 d3 e0 e1 e2 e3
      clear hW3 ho b2 b3 b13 f3 h63 h42 h91 q0
      go_wp2_with fail
      try simp only [Exit.inBlock, Exit.then]
      refine bodyPost_ret (results_cell2 rfl _ _ w.heap.size (.int .i64 4) (.int .u8 0) (.bool (plainF s q (k + 1) 33)) (.slice va (rangesL s q (classEnd s q (classAt s q k) - classAt s q k) (classAt s q k) (classEnd s q (classAt s q k))).length vc) rfl (by go_simp) (by go_simp) (by go_simp) (by go_simp)) rfl ?_
      refine ⟨_, by rw [unhide HC]; rfl, ?_, ?_⟩
      · rw [unhide HC]
        exact ownR_base (ownR_below (ownR_turns (unhide HO) (turns_tok _ _ _ _) (by have := unhide HZ1; omega)) ((Below.refl _ _).alloc (Nat.le_refl _) _)) hz2
      · exact ((unhide HB2).trans ((turns_tok _ _ _ _).below (Nat.le_refl _) (unhide HB2).size)).alloc (by simpa using (unhide HB2).size) _
    · have HC : Hid (cutT s q k = (⟨1, sb s k, false, []⟩, k + 1)) := hide (by unfold cutT; rw [if_neg (by simp [h63]), if_neg (by simp [h42]), if_neg (by simp [he])])
      refine (plain_any n pb s a cap q last k 63 _ (unhide HP) hs).mono ?_
      rintro e w2 ⟨rfl, hw2⟩
      have hw3 := hw2.symm
      subst hw3
      clear hw2
      rw [h63]
      go_wp2_with fail
      refine (plain_any n pb s a cap q last k 42 _ (unhide HP) hs).mono ?_
      rintro e w2 ⟨rfl, hw2⟩
      have hw3 := hw2.symm
      subst hw3
      clear hw2
      rw [h42]
      go_wp2_with fail
      refine (plain_any n pb s a cap q last k 91 _ (unhide HP) hs).mono ?_
      rintro e w2 ⟨rfl, hw2⟩
      have hw3 := hw2.symm
      subst hw3
      clear hw2
      rw [h91]
      go_wp2_with fail
      refine (class_none n pb s a cap q last k W1 (unhide HP) hs (by omega) (unhide HLAST) hk he).mono ?_
      rintro e w2 ⟨rfl, b2⟩
      have hw21 := b2.size
      have hlt2 : w.heap.size < w2.heap.size := by omega
      have HB2 : Hid (Below w.heap.size w w2) := hide ((unhide HB1).trans (b2.mono hz2))
      obtain ⟨W3, hW3⟩ : ∃ X, X = w2.alloc (.cells #[.int .i64 0, .int .u8 0, .bool false, .slice none 0 0] 47) := ⟨_, rfl⟩
      have b3 : Below w2.heap.size w2 W3 := by rw [hW3]; exact (Below.refl _ w2).alloc (Nat.le_refl _) _
      have b13 := b2.trans (b3.mono hw21)
      have d0 := (b13.cell (p := ⟨w.heap.size, 0, none⟩) hz3).trans c0
      have d1 := (b13.cell (p := ⟨w.heap.size, 1, none⟩) hz3).trans c1
      have d2 := (b13.cell (p := ⟨w.heap.size, 2, none⟩) hz3).trans c2
      have d3 := (b13.cell (p := ⟨w.heap.size, 3, none⟩) hz3).trans c3
      have m0 := (b2.cell (p := ⟨w.heap.size, 0, none⟩) hz3).trans c0
      have y0 := ((unhide HF).of_block (b2.block _ hz3)) 0
      have m1 := (b2.cell (p := ⟨w.heap.size, 1, none⟩) hz3).trans c1
      have y1 := ((unhide HF).of_block (b2.block _ hz3)) 1
      have m2 := (b2.cell (p := ⟨w.heap.size, 2, none⟩) hz3).trans c2
      have y2 := ((unhide HF).of_block (b2.block _ hz3)) 2
      have m3 := (b2.cell (p := ⟨w.heap.size, 3, none⟩) hz3).trans c3
      have y3 := ((unhide HF).of_block (b2.block _ hz3)) 3
      have z0 := ((unhide HP).of_below b2 (by omega) (cell_lt p0)).p0
      have f3 := (unhide HF).of_block (b13.block _ hz3)
      have e0 := f3 0
      have e1 := f3 1
      have e2 := f3 2
      have e3 := f3 3
      have q0 := ((unhide HP).of_below b13 (by omega) (cell_lt p0)).p0
      rw [hW3] at d0 d1 d2 d3 e0 e1 e2 e3 q0
      clear hW3 b2 b3 b13 f3 h63 h42 h91
      go_wp2_with fail
      refine bodyPost_ret (results_cell2 rfl _ _ w.heap.size (.int .i64 1) (.int .u8 (s[k].toNat : Int)) (.bool false) (.slice none 0 0) rfl (by go_simp) (by go_simp) (by go_simp) (by go_simp)) rfl ?_
      refine ⟨.slice none 0 0, by rw [unhide HC, sb_eq hk]; rfl, ?_, ?_⟩
      · rw [unhide HC]
        exact World.ownsRow_nil _ _ _ _
      · exact ((unhide HB2).trans ((turns_tok _ _ _ _).below (Nat.le_refl _) (unhide HB2).size)).alloc (by simpa using (unhide HB2).size) _
  · have HC : Hid (cutT s q k = (⟨1, sb s k, false, []⟩, k + 1)) := hide (by unfold cutT; rw [if_neg (by simp [h63]), if_neg (by simp [h42]), if_neg (by simp [h91])])
    refine (plain_any n pb s a cap q last k 63 _ (unhide HP) hs).mono ?_
    rintro e w2 ⟨rfl, hw2⟩
    have hw3 := hw2.symm
    subst hw3
    clear hw2
    rw [h63]
    go_wp2_with fail
    refine (plain_any n pb s a cap q last k 42 _ (unhide HP) hs).mono ?_
    rintro e w2 ⟨rfl, hw2⟩
    have hw3 := hw2.symm
    subst hw3
    clear hw2
    rw [h42]
    go_wp2_with fail
    refine (plain_any n pb s a cap q last k 91 _ (unhide HP) hs).mono ?_
    rintro e w2 ⟨rfl, hw2⟩
    have hw3 := hw2.symm
    subst hw3
    clear hw2
    rw [h91]
    go_wp2_with fail
    refine bodyPost_ret (results_cell2 rfl _ _ w.heap.size (.int .i64 1) (.int .u8 (s[k].toNat : Int)) (.bool false) (.slice none 0 0) rfl (by go_simp) (by go_simp) (by go_simp) (by go_simp)) rfl ?_
    refine ⟨.slice none 0 0, by rw [unhide HC, sb_eq hk]; rfl, ?_, (unhide HB1).trans ((turns_tok _ _ _ _).below (Nat.le_refl _) (by omega))⟩
    rw [unhide HC]
    exact World.ownsRow_nil _ _ _ _

end Go.Proofs.Ytegaonlpbcpobaa

/-
  The contracts of the methods of 'pattern': plain, ranges.
-/
import Derived.Test.YtegaonlpbcpobaaStep
import Derived.Deep.RegionLaw
namespace Go.Proofs.Ytegaonlpbcpobaa
open Go.RowKit

/-- A slice of bools, in blocks below n. -/
def QRow (n : Nat) (W : World) (v : Value) (q : List Bool) : Prop :=
  ∃ (a : Option Addr) (cap : Nat), v = .slice a q.length cap ∧ q.length ≤ 9223372036854775807 ∧ (q = [] ∨ ∃ b o, a = some ⟨b, o, none⟩ ∧ b < n ∧
    ∀ j (hj : j < q.length), W.cell? ⟨b, o + j, none⟩ = some (.bool q[j]))
theorem QRow.below {n : Nat} {W W' : World} {v : Value} {q : List Bool} (h : QRow n W v q) (hb : Below n W W') : QRow n W' v q := by
  obtain ⟨a, cap, rfl, hm, h⟩ := h
  refine ⟨a, cap, rfl, hm, ?_⟩
  rcases h with h | ⟨b, o, rfl, hlt, hcell⟩
  · exact .inl h
  · exact .inr ⟨b, o, rfl, hlt, fun j hj => (hb.cell (p := ⟨b, o + j, none⟩) hlt).trans (hcell j hj)⟩
theorem QRow.shape {n : Nat} {W : World} {v : Value} {q : List Bool} (h : QRow n W v q) : ∃ a cap, v = .slice a q.length cap ∧ q.length ≤ 9223372036854775807 := by
  obtain ⟨a, cap, e, hm, _⟩ := h
  exact ⟨a, cap, e, hm⟩

/-- A pattern at a block. -/
structure PatAt (n : Nat) (W : World) (pb : Nat) (s : ByteArray) (a : Option Addr) (cap : Nat) (q : List Bool) (last : Int) : Prop where
  p0 : W.cell? ⟨pb, 0, none⟩ = some (.string s)
  p1 : W.cell? ⟨pb, 1, none⟩ = some (.slice a q.length cap)
  p2 : W.cell? ⟨pb, 2, none⟩ = some (.int .i64 last)
  row : QRow n W (.slice a q.length cap) q
theorem PatAt.of_below {n m : Nat} {W W' : World} {pb : Nat} {s : ByteArray} {a : Option Addr} {cap : Nat} {q : List Bool} {last : Int} (h : PatAt n W pb s a cap q last) (hb : Below m W W') (h1 : n ≤ m) (h2 : pb < m) : PatAt n W' pb s a cap q last :=
  ⟨(hb.cell (p := ⟨pb, 0, none⟩) h2).trans h.p0, (hb.cell (p := ⟨pb, 1, none⟩) h2).trans h.p1, (hb.cell (p := ⟨pb, 2, none⟩) h2).trans h.p2, h.row.below (hb.mono h1)⟩
theorem PatAt.lt {n : Nat} {W : World} {pb : Nat} {s : ByteArray} {a : Option Addr} {cap : Nat} {q : List Bool} {last : Int} (h : PatAt n W pb s a cap q last) : pb < W.heap.size := cell_lt h.p0

def plainF (s : ByteArray) (q : List Bool) (i : Nat) (c : Int) : Bool := decide (i < s.size) && (sb s i == c) && !(q[i]?.getD false)

set_option maxHeartbeats 1000000 in
theorem plain_any (n pb : Nat) (s : ByteArray) (a : Option Addr) (cap : Nat) (q : List Bool) (last : Int) (i : Nat) (c : Int) (w : World) (hp : PatAt n w pb s a cap q last) (_hs : s.size ≤ 100000) :
    Calls Try.prog 33 #[.pointer (some ⟨pb, 0, none⟩), .int .i64 (i : Int), .int .u8 c] w fun e w' => e = .returned (.bool (plainF s q i c)) ∧ w' = w := by
  obtain ⟨p0, p1, p2, row⟩ := hp
  obtain ⟨a', cap', he, hm, hr⟩ := row
  cases he
  by_cases hi : i < s.size
  · by_cases hc : ((s[i].toNat : Int) = c)
    · by_cases hq : i < q.length
      · rcases hr with hr | ⟨b, o, rfl, _, hcell⟩
        · simp [hr] at hq
        have hck := hcell i hq
        rcases Bool.eq_false_or_eq_true q[i] with hb | hb
        all_goals
          rw [hb] at hck
          have hcb : ((s[i].toNat : Int) == c) = true := by simpa using hc
          clear hcell
          go_enter Try.func33, Try.ntmps33
          go_wp2
          go_ret
          exact ⟨ret_bool (by unfold plainF; rw [sb_eq hi, List.getElem?_eq_getElem hq, Option.getD_some, hb]; simp [hi, hc, hq]), rfl⟩
      · have hcb : ((s[i].toNat : Int) == c) = true := by simpa using hc
        clear hr
        go_enter Try.func33, Try.ntmps33
        go_wp2
        go_ret
        exact ⟨ret_bool (by unfold plainF; rw [sb_eq hi, List.getElem?_eq_none (by omega)]; simp [hi, hc]), rfl⟩
    · have hcb : ((s[i].toNat : Int) == c) = false := by rw [beq_eq_false_iff_ne]; exact hc
      clear hr
      go_enter Try.func33, Try.ntmps33
      go_wp2
      go_ret
      exact ⟨ret_bool (by unfold plainF; rw [sb_eq hi]; simp [hi, hc]), rfl⟩
  · clear hr
    go_enter Try.func33, Try.ntmps33
    go_wp2
    go_ret
    exact ⟨ret_bool (by unfold plainF; simp [hi]), rfl⟩

theorem step_append_own {P : Program} {ops : Array Oper} {o : Oper} {a : Act} {w : World} {K : Act → World → Prop} {Q : Exit → Act → World → Prop} {E : Prop} (hg : o.guard = none) (s x : Operand) (t : TypeId)
    (ho : o.op = .call { callee := .builtin .append, args := #[s, x], argTypes := #[t, t] })
    (base : Nat) (e : TypeId) (i : TypeInfo) (z : Value) (size bytes : Nat) (ht : P.underlying t = some (.slice e)) (hi : P.info? e = some i) (hz : i.zero = some z)
    (hsize : i.size = size) (hby : i.bytes = bytes) (hzs : z.cells.size = size) (hsz : 0 < size)
    (v : Value) (n : Nat) (xs : List Value) (hs : a.eval s = v) (hown : w.ownsRow base e size v n xs)
    (ad : Addr) (m c : Nat) (news : List Value) (hx : a.eval x = .slice (some ad) m c) (hl : news.length = m * size) (hnews : ∀ j u, news[j]? = some u → w.cell? (ad.add j) = some u) (h1 : ∀ u ∈ news, u.oneCell' = true)
    (h63 : n + m ≤ maxLen) (hbytes : (n + m) * bytes ≤ 140737488355328) (hbase : base ≤ w.heap.size)
    (h : ∀ v' w', w'.ownsRow base e size v' (n + m) (xs ++ news) → w.grownBy w' v.ownBlock → (v' = .slice none 0 0 ↔ v = .slice none 0 0 ∧ m = 0) → K (a.put o.dst v') w') :
    if Region.wanted o (yielded ops a.tmps) = true then Oper.wp P o a w K Q else E := by
  have hw : Region.wanted o (yielded ops a.tmps) = true := by simp [Region.wanted, hg]
  rw [if_pos hw]
  exact wp_append_own w s x t ho base e i z size bytes ht hi hz hsize hby hzs hsz v n xs hs hown ad m c news hx hl hnews h1 h63 hbytes hbase h

theorem ownsRow_below {W W' : World} {base size n : Nat} {e : TypeId} {v : Value} {xs : List Value} (h : W.ownsRow base e size v n xs) (hb : Below W.heap.size W W') : W'.ownsRow base e size v n xs := by
  obtain ⟨h1, h2 | ⟨g, cap, cur, hv, hg, hc, hr⟩⟩ := h
  · exact ⟨h1, .inl h2⟩
  · exact ⟨h1, .inr ⟨g, cap, cur, hv, hg, (hb.block g (Array.getElem?_eq_some_iff.1 hc).1).trans hc, hr⟩⟩
theorem ownsRow_lt {W : World} {base size n : Nat} {e : TypeId} {v : Value} {xs : List Value} (h : W.ownsRow base e size v n xs) {k : Nat} (hk : v.ownBlock = some k) : base ≤ k ∧ k < W.heap.size := by
  obtain ⟨_, ⟨rfl, _⟩ | ⟨g, cap, cur, rfl, hb, hc, _⟩⟩ := h
  · cases hk
  · simp [Value.ownBlock] at hk
    subst hk
    exact ⟨hb, (Array.getElem?_eq_some_iff.1 hc).1⟩

/-- The ranges of the bytes from k to ahead of e. -/
def rangesL (s : ByteArray) (q : List Bool) : Nat → Nat → Nat → List (Int × Int)
  | 0, _, _ => []
  | f + 1, k, e => if k < e then (if decide (k + 2 < e) && plainF s q (k + 1) 45 then (sb s k, sb s (k + 2)) :: rangesL s q f (k + 3) e else (sb s k, sb s k) :: rangesL s q f (k + 1) e) else []
def flatR (rs : List (Int × Int)) : List Value := rs.flatMap fun r => [.int .u8 r.1, .int .u8 r.2]
theorem flatR_len : ∀ rs, (flatR rs).length = rs.length * 2
  | [] => rfl
  | r :: rs => by
    have := flatR_len rs
    simp [flatR] at this ⊢
    omega
theorem flatR_snoc (rs : List (Int × Int)) (r : Int × Int) : flatR (rs ++ [r]) = flatR rs ++ [.int .u8 r.1, .int .u8 r.2] := by simp [flatR]
theorem flatR_get : ∀ (rs : List (Int × Int)) (j : Nat) (hj : j < rs.length), (flatR rs)[j * 2]? = some (.int .u8 rs[j].1) ∧ (flatR rs)[j * 2 + 1]? = some (.int .u8 rs[j].2)
  | r :: rs, 0, _ => by simp [flatR]
  | r :: rs, j + 1, hj => by
    have := flatR_get rs j (by simpa using hj)
    simp only [flatR, List.flatMap_cons] at this ⊢
    rw [show (j + 1) * 2 = j * 2 + 2 by omega, show j * 2 + 2 + 1 = j * 2 + 1 + 2 by omega]
    simpa using this
/-- A row of ranges of the call's own. -/
def OwnR (W : World) (base : Nat) (v : Value) (rs : List (Int × Int)) : Prop := W.ownsRow base 48 2 v rs.length (flatR rs)
theorem ownR_row {W : World} {base n : Nat} {v : Value} {rs : List (Int × Int)} (h : OwnR W base v rs) (hl : rs.length ≤ 9223372036854775807) (hn : ∀ k, v.ownBlock = some k → k < n) : RowR n W v rs := by
  by_cases h0 : rs = []
  · subst h0
    obtain ⟨_, ⟨rfl, _⟩ | ⟨g, cap, cur, rfl, _⟩⟩ := h
    · exact ⟨_, _, rfl, Nat.le_refl _, by simp, .inl rfl⟩
    · exact ⟨_, _, rfl, by simp, by simp, .inl rfl⟩
  · obtain ⟨_, ⟨_, hz⟩ | ⟨g, cap, cur, rfl, hb, hg, hc, _, hs, htk⟩⟩ := h
    · exact absurd (List.eq_nil_of_length_eq_zero hz) h0
    · have hcell : ∀ i u, (flatR rs)[i]? = some u → W.cell? ⟨g, 0 + i, none⟩ = some u := by
        intro i u hi
        rw [← htk, List.getElem?_take] at hi
        split at hi
        · unfold World.cell?
          simp only [hg]
          simpa using hi
        · cases hi
      refine ⟨_, _, rfl, hc, hl, .inr ⟨g, 0, rfl, hn g rfl, fun j hj => ?_⟩⟩
      obtain ⟨e1, e2⟩ := flatR_get rs j hj
      exact ⟨hcell _ _ e1, hcell _ _ e2⟩

theorem info48 : (Try.prog.info? 48).map (fun i => (i.zero, i.size, i.bytes)) = some (some (.agg #[.int .u8 0, .int .u8 0]), 2, 2) := by kernel_rfl
theorem two_cells {w : World} {x y : Value} {t : TypeId} : ∀ j u, [x, y][j]? = some u → (w.alloc (.cells #[x, y] t)).cell? ((⟨w.heap.size, 0, none⟩ : Addr).add j) = some u := by
  intro j u hj
  match j, hj with
  | 0, hj => simp at hj; subst hj; simp [Addr.add]
  | 1, hj => simp at hj; subst hj; simp [Addr.add]

theorem le_alloc {n : Nat} {w : World} {o : Obj} (h : n ≤ w.heap.size) : n ≤ (w.alloc o).drew.heap.size := by
  show n ≤ (w.alloc o).heap.size
  rw [World.size_alloc]; omega
theorem two_one {x y : Int} : ∀ u ∈ [Value.int .u8 x, Value.int .u8 y], u.oneCell' = true := by
  intro u hu
  simp at hu
  rcases hu with rfl | rfl <;> rfl
theorem ownR_push {W : World} {base : Nat} {v : Value} {l : List (Int × Int)} {x y : Int} {r : Int × Int} (e : (x, y) = r) (h : W.ownsRow base 48 2 v (l.length + 1) (flatR l ++ [.int .u8 x, .int .u8 y])) : OwnR W base v (l ++ [r]) := by
  subst e
  unfold OwnR
  rw [flatR_snoc, List.length_append]
  exact h

theorem rangesL_hit {s : ByteArray} {q : List Bool} {F k e : Nat} (h1 : k < e) (h2 : k + 2 < e) (h3 : plainF s q (k + 1) 45 = true) : rangesL s q (F + 1) k e = (sb s k, sb s (k + 2)) :: rangesL s q F (k + 3) e := by
  rw [rangesL, if_pos h1, if_pos (by simp [h2, h3])]
theorem rangesL_miss {s : ByteArray} {q : List Bool} {F k e : Nat} (h1 : k < e) (h2 : ¬ (k + 2 < e ∧ plainF s q (k + 1) 45 = true)) : rangesL s q (F + 1) k e = (sb s k, sb s k) :: rangesL s q F (k + 1) e := by
  rw [rangesL, if_pos h1, if_neg (by simpa using h2)]

end Go.Proofs.Ytegaonlpbcpobaa

/-
  FdsDup's seat: what the law asks: the program's own facts; what the arguments read as.
  FdsDup: what is dupped is the same.
-/
import Derived.Test.YtemologkibcdoaaM42
import Derived.Test.YtemologkibcdoaaM41
import Derived.Deep.Slices
import Derived.SliceStrings

/- FdsDup's seat: what the law asks: the program's own facts; what the arguments read as. -/
namespace Go.Proofs.Ytemologkibcdoaa
open Go.ChangeShapes Go.WideShapes Go.ChangeAt Go.RowKit

theorem own : ownKnob Try.prog.godebug = none := by kernel_rfl
theorem laidOut : laidOutB Try.prog = true := by kernel_rfl
theorem read_of {P : Program} {ts : List TypeId} (h : (ts.all fun t => P.readableRec t && decide (t < P.types.size)) = true) : ∀ t ∈ ts, P.readableRec t = true ∧ t < P.types.size := by
  intro t ht
  have := List.all_eq_true.1 h t ht
  simpa using this
theorem cells9 : Try.prog.cellsOf 9 = 1 := by kernel_rfl
theorem cells4 : Try.prog.cellsOf 4 = 1 := by kernel_rfl
theorem cells3 : Try.prog.cellsOf 3 = 1 := by kernel_rfl
theorem cell_lt {W : World} {p : Addr} {v : Value} (h : W.cell? p = some v) : p.block < W.heap.size := by
  rcases Nat.lt_or_ge p.block W.heap.size with h' | h'
  · exact h'
  · unfold World.cell? at h
    rw [Array.getElem?_eq_none h'] at h
    cases h
theorem add_at2 (b o j : Nat) : ((⟨b, o, none⟩ : Addr).add j) = ⟨b, o + j, none⟩ := by
  by_cases h : j = 0
  · subst h; simp [Addr.add]
  · simp [Addr.add, h]
variable {H : Type} {enc : TypeId × Value → H}

/-- A slice of texts. -/
def SRow (w : World) (v : Value) (l : List (List UInt8)) : Prop := ∃ ad cap, v = .slice ad l.length cap ∧ ∀ (i : Nat) (x : List UInt8), l[i]? = some x → ∃ g o, ad = some ⟨g, o, none⟩ ∧ g < w.heap.size ∧ w.cell? ⟨g, o + i, none⟩ = some (.string (BA x))
theorem SRow.below {w w' : World} {v : Value} {l : List (List UInt8)} (h : SRow w v l) (hb : Below w.heap.size w w') : SRow w' v l := by
  obtain ⟨ad, cap, rfl, h⟩ := h
  refine ⟨ad, cap, rfl, fun i x hi => ?_⟩
  obtain ⟨g, o, rfl, hg, c0⟩ := h i x hi
  exact ⟨g, o, rfl, Nat.lt_of_lt_of_le hg hb.size, (hb.cell (p := ⟨g, _, none⟩) hg).trans c0⟩
theorem texts_of {W : World} {v : Value} {d : DataW H} {p : List MemPlace} (hok : ∃ a len cap, v = .slice a len cap) (h : DataW.Trod enc Try.prog W 0 (fun _ => true) true 22 v d p) : ∃ l, SRow W v l ∧ l.length ≤ maxLen := by
  obtain ⟨a0, len0, cap0, rfl⟩ := hok
  obtain ⟨fuel, h⟩ := h
  rcases Deep.open_slice Try.underlying22 h with ⟨h0, _⟩ | ⟨a, len, cap, m, n, D, Pl, hcs, _, hl, hm, hmm, _, hx⟩
  · simp [Value.cells] at h0
    obtain ⟨rfl, rfl, rfl⟩ := h0
    exact ⟨[], ⟨none, 0, rfl, fun i x hi => by simp at hi⟩, Nat.zero_le _⟩
  · simp [Value.cells] at hcs
    obtain ⟨rfl, rfl, rfl⟩ := hcs
    rw [if_pos rfl] at hmm
    subst hmm
    by_cases h0 : len0 = 0
    · subst h0
      exact ⟨[], ⟨some a, m, rfl, fun i x hi => by simp at hi⟩, Nat.zero_le _⟩
    have each : ∀ i, ∃ y : List UInt8, i < len0 → W.cell? (a.add (i * 1)) = some (.string (BA y)) := by
      intro i
      by_cases hi : i < len0
      · obtain ⟨cs, h1, h2⟩ := hx i (by omega)
        rw [cells9] at h1
        obtain ⟨_, hlen, hcell⟩ := World.cells?_some h1
        match cs, hlen with
        | [v0], _ =>
          have e0 := hcell 0 (by omega)
          rw [Deep.add_add] at e0
          obtain ⟨z0, hz0, _⟩ := DataW.trod_string Try.underlying9 h2
          simp at hz0
          subst hz0
          exact ⟨z0.data.toList, fun _ => by simpa [BA_of] using e0⟩
      · exact ⟨[], fun h => absurd h hi⟩
    obtain ⟨R, hR⟩ : ∃ R : Nat → List UInt8, ∀ i, i < len0 → W.cell? (a.add (i * 1)) = some (.string (BA (R i))) := ⟨fun i => Classical.choose (each i), fun i => Classical.choose_spec (each i)⟩
    obtain ⟨b, o, spot⟩ := a
    have hspot : spot = none := by simpa [Addr.add] using World.cell?_spot (hR 0 (by omega))
    subst hspot
    refine ⟨(List.range len0).map R, ⟨some ⟨b, o, none⟩, m, by simp, fun j x hj => ?_⟩, by simp; omega⟩
    rw [List.getElem?_map] at hj
    obtain ⟨y, hy, rfl⟩ := Option.map_eq_some_iff.1 hj
    obtain ⟨hj', e⟩ := List.getElem?_eq_some_iff.1 hy
    simp at hj' e
    subst e
    have := hR j hj'
    rw [add_at2, Nat.mul_one] at this
    exact ⟨b, o, rfl, cell_lt this, this⟩
/-- A slice of bools. -/
def BRow (w : World) (v : Value) (l : List Bool) : Prop := ∃ ad cap, v = .slice ad l.length cap ∧ ∀ (i : Nat) (x : Bool), l[i]? = some x → ∃ g o, ad = some ⟨g, o, none⟩ ∧ g < w.heap.size ∧ w.cell? ⟨g, o + i, none⟩ = some (.bool x)
theorem BRow.below {w w' : World} {v : Value} {l : List Bool} (h : BRow w v l) (hb : Below w.heap.size w w') : BRow w' v l := by
  obtain ⟨ad, cap, rfl, h⟩ := h
  refine ⟨ad, cap, rfl, fun i x hi => ?_⟩
  obtain ⟨g, o, rfl, hg, c0⟩ := h i x hi
  exact ⟨g, o, rfl, Nat.lt_of_lt_of_le hg hb.size, (hb.cell (p := ⟨g, _, none⟩) hg).trans c0⟩
theorem bools_of {W : World} {v : Value} {d : DataW H} {p : List MemPlace} (hok : ∃ a len cap, v = .slice a len cap) (h : DataW.Trod enc Try.prog W 0 (fun _ => true) true 24 v d p) : ∃ l, BRow W v l ∧ l.length ≤ maxLen := by
  obtain ⟨a0, len0, cap0, rfl⟩ := hok
  obtain ⟨fuel, h⟩ := h
  rcases Deep.open_slice Try.underlying24 h with ⟨h0, _⟩ | ⟨a, len, cap, m, n, D, Pl, hcs, _, hl, hm, hmm, _, hx⟩
  · simp [Value.cells] at h0
    obtain ⟨rfl, rfl, rfl⟩ := h0
    exact ⟨[], ⟨none, 0, rfl, fun i x hi => by simp at hi⟩, Nat.zero_le _⟩
  · simp [Value.cells] at hcs
    obtain ⟨rfl, rfl, rfl⟩ := hcs
    rw [if_pos rfl] at hmm
    subst hmm
    by_cases h0 : len0 = 0
    · subst h0
      exact ⟨[], ⟨some a, m, rfl, fun i x hi => by simp at hi⟩, Nat.zero_le _⟩
    have each : ∀ i, ∃ y : Bool, i < len0 → W.cell? (a.add (i * 1)) = some (.bool y) := by
      intro i
      by_cases hi : i < len0
      · obtain ⟨cs, h1, h2⟩ := hx i (by omega)
        rw [cells4] at h1
        obtain ⟨_, hlen, hcell⟩ := World.cells?_some h1
        match cs, hlen with
        | [v0], _ =>
          have e0 := hcell 0 (by omega)
          rw [Deep.add_add] at e0
          obtain ⟨z0, hz0, _⟩ := DataW.trod_bool Try.underlying4 h2
          simp at hz0
          subst hz0
          exact ⟨z0, fun _ => by simpa using e0⟩
      · exact ⟨false, fun h => absurd h hi⟩
    obtain ⟨R, hR⟩ : ∃ R : Nat → Bool, ∀ i, i < len0 → W.cell? (a.add (i * 1)) = some (.bool (R i)) := ⟨fun i => Classical.choose (each i), fun i => Classical.choose_spec (each i)⟩
    obtain ⟨b, o, spot⟩ := a
    have hspot : spot = none := by simpa [Addr.add] using World.cell?_spot (hR 0 (by omega))
    subst hspot
    refine ⟨(List.range len0).map R, ⟨some ⟨b, o, none⟩, m, by simp, fun j x hj => ?_⟩, by simp; omega⟩
    rw [List.getElem?_map] at hj
    obtain ⟨y, hy, rfl⟩ := Option.map_eq_some_iff.1 hj
    obtain ⟨hj', e⟩ := List.getElem?_eq_some_iff.1 hy
    simp at hj' e
    subst e
    have := hR j hj'
    rw [add_at2, Nat.mul_one] at this
    exact ⟨b, o, rfl, cell_lt this, this⟩
theorem okWide_array {P : Program} {w : World} {r : Reach} {base : Nat} {t e : TypeId} {n : Nat} {v : Value} (ht : P.underlying t = some (.array n e)) (h : Value.okWide P w r base t v) : ∃ cs, v = .agg cs ∧ cs.size = P.cellsOf t := by
  simp only [Value.okWide, ht] at h
  obtain ⟨cs, h1, h2, _⟩ := h
  exact ⟨cs, h1, h2⟩
theorem i64_of {x : Int} (h : (Lit.int .i64 x).wf = true) : I64 x := bounds_i64 h
theorem cells2 : Try.prog.cellsOf 23 = 2 := by kernel_rfl
set_option maxRecDepth 100000 in
theorem two_of {W : World} {v : Value} {d : DataW H} {p : List MemPlace} (h : DataW.Trod enc Try.prog W 0 (fun _ => true) true 23 v d p) (hv : ∃ cs, v = .agg cs ∧ cs.size = Try.prog.cellsOf 23) : ∃ a b : Int, v = .agg #[.int .i64 a, .int .i64 b] ∧ I64 a ∧ I64 b := by
  obtain ⟨⟨cs⟩, rfl, hsz⟩ := hv
  rw [cells2] at hsz
  obtain ⟨fuel, h⟩ := h
  obtain ⟨xs, k, hk, hxy, _, hxl, hf⟩ := DataW.trod_array Try.underlying23 h
  match xs, hxl, cs, hsz with
  | [y0, y1], _, [v0, v1], _ =>
    have g0 := hf 0 (by decide)
    have g1 := hf 1 (by decide)
    simp [cells3, Value.cells] at g0 g1
    obtain ⟨z0, hz0, _, hy0⟩ := DataW.trod_int Try.underlying3 g0
    obtain ⟨z1, hz1, _, hy1⟩ := DataW.trod_int Try.underlying3 g1
    simp at hz0 hz1
    subst hz0 hz1
    exact ⟨z0, z1, rfl, i64_of hy0, i64_of hy1⟩

end Go.Proofs.Ytemologkibcdoaa

/- FdsDup: what is dupped is the same. -/
namespace Go.Proofs.Ytemologkibcdoaa
open Go.RowKit Go.Maps

set_option maxRecDepth 20000 in
set_option maxHeartbeats 2000000 in
theorem sunk_any {w : World} {f q nb n x : Nat} {B : Bas} {Z : Nat → Prop} {A : AS} {sb : List Nat} {H : Hp} {L : Fay} (F : FH w f q Z A nb n B x sb H L) {k : Nat} {t : List UInt8} (hk : A.sk[k]? = some t) (hn : A.sk.length ≤ 100000) : Calls Try.prog 11 #[.pointer (some ⟨x, 0, none⟩), .int .i64 ((k + 1 : Nat) : Int)] w fun e w' => e = .returned (.string (BA t)) ∧ GrownS w w' (fun j => ∃ o, H j = some o ∧ o.tg = .buf k) := by
  obtain ⟨v, hx, hr⟩ := F.li.fil
  obtain ⟨a, u, e1, e2, e3⟩ := F.li.sk k t hk
  have HS := hide (kstr_any F.mx e1 e3)
  have hkl := (List.getElem?_eq_some_iff.1 hk).1
  have hxb := F.mx.blk _ _ hx
  have hxl : ((List.range A.sk.length).map (fun k => ptrV (L.kb k))).length = A.sk.length := by simp
  rcases hr with ⟨rfl, he⟩ | ⟨g, cap, cur, rfl, h2, h3, h4, h5, h6⟩
  · have := congrArg List.length he
    rw [hxl] at this
    simp at this
    rw [this] at hk
    simp at hk
  · rw [hxl] at hxb h3 h6
    have c2 : w.cell? ⟨x, 2, none⟩ = some (.slice (some ⟨g, 0, none⟩) A.sk.length cap) := hxb.cell 2 rfl
    have ck : w.cell? ⟨g, k, none⟩ = some (.pointer (some ⟨L.kb k, 0, none⟩)) := by
      refine (F.mx.blk _ _ h2).cell k ?_
      have e4 : (cur.toList.take A.sk.length)[k]? = some (ptrV (L.kb k)) := by
        rw [h6, List.getElem?_map, List.getElem?_range hkl]
        rfl
      rw [List.getElem?_take, if_pos hkl] at e4
      have e5 : cur[k]? = some (ptrV (L.kb k)) := by simpa using e4
      exact e5
    obtain ⟨N, hN⟩ : ∃ N, N = A.sk.length := ⟨_, rfl⟩
    obtain ⟨kb, hkb⟩ : ∃ kb, kb = L.kb k := ⟨_, rfl⟩
    obtain ⟨T, hT⟩ : ∃ T, T = BA t := ⟨_, rfl⟩
    rw [← hN] at c2 hkl hn
    rw [← hkb] at ck HS
    rw [← hT] at HS ⊢
    obtain ⟨K, hK⟩ : ∃ K : Int, K = ((k + 1 : Nat) : Int) := ⟨_, rfl⟩
    have q1 : IntKind.i64.wrap (K - 1) = (k : Int) := by rw [IntKind.wrap_i64]; omega
    have q2 : ¬ K < 1 := by omega
    have q3 : ¬ (N : Int) < K := by omega
    have q4 : (k : Int) < (N : Int) := by omega
    have q5 : (0 : Int) ≤ (k : Int) := by omega
    rw [← hK]
    clear F e1 e2 e3 hk hkl hxb hxl h2 h3 h4 h5 h6 hx hN hkb hT hK hn
    go_enter Try.func11, Try.ntmps11
    go_wp2_with fail
    refine (unhide HS).mono ?_
    rintro e w1 ⟨rfl, h1⟩
    have H1 := hide h1
    clear HS h1
    go_wp2_with fail
    go_ret
    exact ⟨rfl, unhide H1⟩
/-- The law's states: one sink, one row. -/
def dS (s : NS) (m : Nat) (t : List UInt8) (r : List (Option Nat)) : AS := ⟨s, [⟨.sink 0, m⟩], [], [t], [r]⟩
def r0 : List (Option Nat) := List.replicate 16 none
theorem r0_set (i : Nat) (o : Option Nat) : (r0.set i o).length = 16 := by simp [r0]
theorem d_ref : ∀ i : Nat, i < 16 → refNewL r0 (i : Int) = 0 := by decide
theorem d_sink (s : NS) {i : Nat} (hi : i < 16) : sinA (nwSt (A0 s)) 0 (i : Int) = dS s 1 [] (r0.set i (some 0)) ∧ sinN (nwSt (A0 s)) 0 (i : Int) = 1 ∧ refNewL (row (nwSt (A0 s)) 0) (i : Int) = 0 := by
  have e : refNewL (row (nwSt (A0 s)) 0) (i : Int) = 0 := d_ref i hi
  unfold sinA sinN
  rw [if_pos e, if_pos e]
  exact ⟨rfl, rfl, e⟩
theorem d_dup (s : NS) {i j : Nat} (hi : i < 16) (hj : j < 16) : dupE (dS s 1 [] (r0.set i (some 0))) 0 (i : Int) (j : Int) = 0 ∧ dupA (dS s 1 [] (r0.set i (some 0))) 0 (i : Int) (j : Int) = dS s (if i = j then 1 else 2) [] ((r0.set i (some 0)).set j (some 0)) := by
  have e1 : numL (row (dS s 1 [] (r0.set i (some 0))) 0) (i : Int) = some 0 := numL_at hi (by
    show (r0.set i (some 0))[i]? = _
    rw [List.getElem?_set_self (by simp [r0]; omega)])
  have e2 : fdOk (j : Int) = true := fdOk_iff.2 ⟨by omega, by omega⟩
  unfold dupE dupA
  rw [e1, e2]
  refine ⟨rfl, ?_⟩
  dsimp only
  by_cases h : i = j
  · subst h
    rw [if_neg (by simp), if_pos rfl]
    congr 1
    rw [List.set_set]
  · rw [if_pos (by simp; omega), if_neg h]
    have e3 : numL (row (dS s 1 [] (r0.set i (some 0))) 0) (j : Int) = none := numL_at hj (by
      show (r0.set i (some 0))[j]? = _
      rw [List.getElem?_set_ne h]
      unfold r0
      rw [List.getElem?_replicate, if_pos hj])
    rw [drop_no e3]
    rfl
theorem d_wrt {s : NS} {m nb : Nat} {t d : List UInt8} {r : List (Option Nat)} {fd : Int} (hf : numL r fd = some 0) {N E : Int} {A' : AS} (h : WrtA (dS s m t r) nb 0 fd d N E A') : N = (d.length : Int) ∧ E = 0 ∧ A' = dS s m (t ++ d) r := by
  have e1 : numL (row (dS s m t r) 0) fd = some 0 := hf
  cases h with
  | no h => rw [e1] at h; cases h
  | via i t1 N E A' h1 h2 h3 =>
    rw [e1] at h1
    injection h1 with h1
    subst h1
    have e2 : (dS s m t r).th[0]? = some ⟨.sink 0, m⟩ := rfl
    rw [e2] at h2
    injection h2 with h2
    subst h2
    cases h3 with
    | sink k t1 hk =>
      have e3 : (dS s m t r).sk[0]? = some t := rfl
      rw [e3] at hk
      injection hk with hk
      subst hk
      exact ⟨rfl, rfl, rfl⟩
theorem d_drop {s : NS} {m : Nat} {t : List UInt8} {r : List (Option Nat)} {i : Nat} (hi : i < 16) (h : r[i]? = some (some 0)) : dropA (dS s m t r) 0 (i : Int) = dS s (m - 1) t (r.set i none) := by
  rw [drop_is (A := dS s m t r) (l := r) (t := ⟨.sink 0, m⟩) rfl hi h rfl]
  split
  · rename_i hm
    have hm : m = 1 := hm
    subst hm
    rfl
  · rfl
theorem d_refL {r : List (Option Nat)} {i : Nat} (hi : i < 16) (h : r[i]? = some (some 0)) : refL r (i : Int) = 0 := by
  unfold refL
  rw [numL_at hi h]
  rfl
/-- Where the law is. -/
def DS (w0 wr : World) (x s m : Nat) (t : List UInt8) (r : List (Option Nat)) (n : Nat) : Prop := ∃ f q Z H L s0, FH wr f q Z (dS s0 m t r) 9 n (Bas.of w0) x [s] H L ∧ AOk (dS s0 m t r) n
theorem DS.env {w0 wr : World} {x s m n : Nat} {t : List UInt8} {r : List (Option Nat)} (D : DS w0 wr x s m t r n) : EnvB wr (Bas.of w0) := by
  obtain ⟨f, q, Z, H, L, s0, F, K⟩ := D
  exact F.mx.env
theorem DS.below {w0 wr w' : World} {x s m n : Nat} {t : List UInt8} {r : List (Option Nat)} (D : DS w0 wr x s m t r n) (hb : Below wr.heap.size wr w') : DS w0 w' x s m t r n := by
  obtain ⟨f, q, Z, H, L, s0, F, K⟩ := D
  exact ⟨f, q, Z, H, L, s0, F.below hb, K⟩
theorem DS.write {w0 wr : World} {x s m n : Nat} {t : List UInt8} {r : List (Option Nat)} (D : DS w0 wr x s m t r n) (hn : n ≤ 8000) {fd : Int} (hf : numL r fd = some 0) (d : List UInt8) (hd : d.length ≤ 100000) : Calls Try.prog 8 #[.pointer (some ⟨s, 0, none⟩), .int .i64 fd, .string (BA d)] wr fun e w' => e = .returned (.tuple #[.int .i64 (d.length : Int), .int .i64 0]) ∧ Hid (DS w0 w' x s m (t ++ d) r (n + 1)) := by
  obtain ⟨f, q, Z, H, L, s0, F, K⟩ := D
  refine (swrite_any F (k := 0) rfl rfl K (by omega) fd d hd).mono (fun e w' h => ?_)
  obtain ⟨N, E, e1, e2⟩ := h
  obtain ⟨A', H', e3, F', K'⟩ := unhide e2
  obtain ⟨rfl, rfl, rfl⟩ := d_wrt hf e3
  exact ⟨e1, hide ⟨f, q, Z, H', L, s0, F', K'⟩⟩
theorem DS.close {w0 wr : World} {x s m n : Nat} {t : List UInt8} {r : List (Option Nat)} (D : DS w0 wr x s m t r n) (hn : n ≤ 8000) {i : Nat} (hi : i < 16) (h : r[i]? = some (some 0)) : Calls Try.prog 9 #[.pointer (some ⟨s, 0, none⟩), .int .i64 (i : Int)] wr fun e w' => e = .returned (.int .i64 0) ∧ Hid (DS w0 w' x s (m - 1) t (r.set i none) (n + 1)) := by
  obtain ⟨f, q, Z, H, L, s0, F, K⟩ := D
  have := sclose_any F (k := 0) rfl rfl K (by omega) (i : Int)
  rw [d_drop hi h, show row (dS s0 m t r) 0 = r from rfl, d_refL hi h] at this
  refine this.mono (fun e w' h => ⟨h.1, hide ?_⟩)
  obtain ⟨H', F', K'⟩ := unhide h.2
  exact ⟨f, q, Z, H', L, s0, F', K'⟩
theorem DS.closeNo {w0 wr : World} {x s m n : Nat} {t : List UInt8} {r : List (Option Nat)} (D : DS w0 wr x s m t r n) (hn : n ≤ 8000) {fd : Int} (h : numL r fd = none) : Calls Try.prog 9 #[.pointer (some ⟨s, 0, none⟩), .int .i64 fd] wr fun e w' => (∃ E, e = .returned (.int .i64 E)) ∧ Hid (DS w0 w' x s m t r (n + 1)) := by
  obtain ⟨f, q, Z, H, L, s0, F, K⟩ := D
  have := sclose_any F (k := 0) rfl rfl K (by omega) fd
  have h0 : numL (row (dS s0 m t r) 0) fd = none := h
  rw [drop_no h0] at this
  refine this.mono (fun e w' h => ⟨⟨_, h.1⟩, hide ?_⟩)
  obtain ⟨H', F', K'⟩ := unhide h.2
  exact ⟨f, q, Z, H', L, s0, F', K'⟩
theorem DS.open {w0 wr : World} {x s m n : Nat} {t : List UInt8} {r : List (Option Nat)} (D : DS w0 wr x s m t r n) : Calls Try.prog 10 #[.pointer (some ⟨x, 0, none⟩)] wr fun e w' => e = .returned (.int .i64 (if 0 < m then 1 else 0)) ∧ w' = wr := by
  obtain ⟨f, q, Z, H, L, s0, F, K⟩ := D
  have := xopen_any F
  have e : openA (dS s0 m t r) = if 0 < m then 1 else 0 := by
    unfold openA dS
    simp
  rw [e] at this
  refine this.mono (fun e w' h => ⟨h.1.trans ?_, h.2⟩)
  split <;> rfl
/-- What was written is told; then nothing is open, and no number. -/
theorem DS.sunk {w0 wr : World} {x s n : Nat} {t : List UInt8} (D : DS w0 wr x s 0 t r0 n) : Calls Try.prog 11 #[.pointer (some ⟨x, 0, none⟩), .int .i64 1] wr fun e w' => e = .returned (.string (BA t)) ∧ EnvB w' (Bas.of w0) ∧ w'.cell? ⟨x, 1, none⟩ = some (.int .i64 0) ∧ ∃ (L : Fay), Blk w' s 66 (setC L x r0) := by
  obtain ⟨f, q, Z, H, L, s0, F, K⟩ := D
  refine (sunk_any F (k := 0) rfl (by show 1 ≤ 100000; decide)).mono (fun e w' h => ⟨h.1, ?_, ?_, L, ?_⟩)
  · exact F.mx.env.grownS h.2 (fun j hj => by
      obtain ⟨o, h1, _⟩ := hj
      exact F.mx.tn j (F.mx.out j o h1).1)
  · obtain ⟨v, hx, _⟩ := F.li.fil
    exact ((F.mx.blk _ _ hx).grownS h.2 (fun hj => by
      obtain ⟨o, h1, h2⟩ := hj
      rw [hx] at h1
      injection h1 with h1
      rw [← h1] at h2
      cases h2)).cell 1 rfl
  · have hs := (F.li.st 0 s r0 rfl rfl).1
    exact (F.mx.blk _ _ hs).grownS h.2 (fun hj => by
      obtain ⟨o, h1, h2⟩ := hj
      rw [hs] at h1
      injection h1 with h1
      rw [← h1] at h2
      cases h2)
set_option maxRecDepth 20000 in
theorem xopen_cell {w : World} {x : Nat} (c1 : w.cell? ⟨x, 1, none⟩ = some (.int .i64 0)) : Calls Try.prog 10 #[.pointer (some ⟨x, 0, none⟩)] w fun e w' => e = .returned (.int .i64 0) ∧ w' = w := by
  go_enter Try.func10, Try.ntmps10
  go_wp2
  go_ret
  exact ⟨rfl, rfl⟩
set_option maxRecDepth 20000 in
set_option maxHeartbeats 1000000 in
theorem list_blk {w : World} {b x : Nat} {L : Fay} (hblk : Blk w b 66 (setC L x r0)) : Calls Try.prog 12 #[.pointer (some ⟨b, 0, none⟩)] w fun e w' => ∃ ad cap, e = .returned (.slice ad 0 cap) ∧ Below w.heap.size w w' := by
  have HN := hide (sisnil_any hblk)
  have HM := hide (numbers_any hblk rfl true)
  rw [show numsL r0 true = [] from rfl] at HM
  clear hblk
  go_enter Try.func12, Try.ntmps12
  go_wp2_with fail
  refine (unhide HN).mono ?_
  rintro e w1 ⟨rfl, hw⟩
  subst hw
  go_wp2_with fail
  refine (unhide HM).mono ?_
  rintro e w2 ⟨v, rfl, h1⟩
  obtain ⟨ad, cap, rfl, _⟩ := (unhide h1).1
  have HB := hide (unhide h1).2
  clear HM HN h1
  go_wp2_with fail
  go_ret
  exact ⟨ad, cap, rfl, unhide HB⟩

theorem r_two {i j : Nat} (hi : i < 16) (hj : j < 16) : ((r0.set i (some 0)).set j (some 0))[i]? = some (some 0) ∧ ((r0.set i (some 0)).set j (some 0))[j]? = some (some 0) ∧ ((r0.set i (some 0)).set j (some 0)).length = 16 := by
  refine ⟨?_, ?_, by simp [r0]⟩
  · by_cases h : j = i
    · subst h
      rw [List.getElem?_set_self (by simp [r0]; omega)]
    · rw [List.getElem?_set_ne h, List.getElem?_set_self (by simp [r0]; omega)]
  · rw [List.getElem?_set_self (by simp [r0]; omega)]
theorem r_both : ∀ i, i < 16 → ∀ j, j < 16 → (((r0.set i (some 0)).set j (some 0)).set i none).set j none = r0 ∧ ((r0.set i (some 0)).set i (some 0)).set i none = r0 := by decide
theorem r_left {i j : Nat} (hi : i < 16) (hj : j < 16) (h : i ≠ j) : (((r0.set i (some 0)).set j (some 0)).set i none)[j]? = some (some 0) := by
  rw [List.getElem?_set_ne h]
  exact (r_two hi hj).2.1
theorem r_none : ∀ i : Nat, i < 16 → numL r0 (i : Int) = none := by decide
theorem SRow.slice {w : World} {v : Value} {l : List (List UInt8)} (h : SRow w v l) : ∃ ad cap, v = .slice ad l.length cap := by
  obtain ⟨ad, cap, h, _⟩ := h
  exact ⟨ad, cap, h⟩
set_option maxRecDepth 20000 in
set_option maxHeartbeats 8000000 in
theorem fdsdup_walk (v u : Value) (a b : Int) (l : List (List UInt8)) (Q : List Bool) (w : World) (E : EnvB w (Bas.of w)) (hl : SRow w v l) (hq : BRow w u Q) : Calls Try.prog 3 #[v, .agg #[.int .i64 a, .int .i64 b], u] w fun e w' => e = .returned (.bool true) ∧ Below w.heap.size w w' := by
  obtain ⟨ad, cap, rfl, hrow⟩ := hl
  obtain ⟨ad2, cap2, rfl, hrow2⟩ := hq
  obtain ⟨W1, hW1⟩ : ∃ W1, W1 = w.alloc (.cells #[.int .i64 a, .int .i64 b] 23) := ⟨_, rfl⟩
  obtain ⟨bx, hbx⟩ : ∃ bx, bx = w.heap.size := ⟨_, rfl⟩
  have hbel : Below w.heap.size w W1 := by rw [hW1]; exact below_al w _ _
  have E1 : EnvB W1 (Bas.of W1) := (E.below hbel).self
  have hbk : Blk W1 bx 23 #[.int .i64 a, .int .i64 b] := by rw [hW1, hbx]; exact Blk.new w _ _
  have HBX : Hid (∀ W, EnvB W (Bas.of W1) → W.cell? ⟨bx, 0, none⟩ = some (.int .i64 a) ∧ W.cell? ⟨bx, 1, none⟩ = some (.int .i64 b)) := hide (fun W hW => by
    have := hbk.below hW.bel hbk.lt
    exact ⟨this.cell 0 rfl, this.cell 1 rfl⟩)
  have HIN : Hid (∀ W, EnvB W (Bas.of W1) → ∀ g k v, g < w.heap.size → w.cell? ⟨g, k, none⟩ = some v → W.cell? ⟨g, k, none⟩ = some v) := hide (fun W hW g k v hg h => ((hbel.trans (hW.bel.mono hbel.size)).cell (p := ⟨g, k, none⟩) hg).trans h)
  have HA : Hid (∀ W, EnvB W (Bas.of W1) → Calls Try.prog 5 #[] W fun e w' => e = .returned (.bool true) ∧ Below w.heap.size w w') := hide (fun W hW => (awake16_any W hW.self).mono (fun e w' h => ⟨h.1, hbel.trans ((hW.bel.trans (h.2.mono hW.bel.size)).mono hbel.size)⟩))
  have HB := hide (begun_any 9 9 W1 E1 (by decide) (by decide) (by decide) (by decide))
  have HROW := hide hrow
  have HROW2 := hide hrow2
  obtain ⟨N, hN⟩ : ∃ N, N = l.length := ⟨_, rfl⟩
  rw [← hN]
  have HN := hide hN
  obtain ⟨N2, hN2⟩ : ∃ N2, N2 = Q.length := ⟨_, rfl⟩
  rw [← hN2]
  have HN2 := hide hN2
  have HSZ := hide hbel
  clear hrow hrow2 E E1 hN hN2 hbel hbk
  go_enter Try.func3, Try.ntmps3
  go_upto_region 1 with fail
  rw [← hbx, ← hW1]
  clear hbx hW1
  go_wp2_with fail
  refine (unhide HB).mono ?_
  rintro e w1 ⟨f, x, s, rfl, h1⟩
  have hev : EnvB w1 (Bas.of W1) := by obtain ⟨q, Z, H, L, F⟩ := unhide h1; exact F.mx.env
  obtain ⟨b0, b1⟩ := unhide HBX w1 hev
  by_cases hbig : (20 : Int) < (N : Int) ∨ a < 2 ∨ 15 < a ∨ b < 2 ∨ 15 < b
  · have HAW := hide (unhide HA w1 hev)
    clear HB h1 HA HROW HROW2 hev HIN
    by_cases k1 : (20 : Int) < (N : Int)
    · clear hbig
      go_wp2_with fail
      refine (unhide HAW).mono ?_
      rintro e w2 ⟨rfl, hw⟩
      have H2 := hide hw
      clear hw HAW
      go_wp2_with fail
      go_ret
      exact ⟨rfl, unhide H2⟩
    by_cases k2 : a < 2
    · clear hbig
      go_wp2_with fail
      refine (unhide HAW).mono ?_
      rintro e w2 ⟨rfl, hw⟩
      have H2 := hide hw
      clear hw HAW
      go_wp2_with fail
      go_ret
      exact ⟨rfl, unhide H2⟩
    by_cases k3 : 15 < a
    · clear hbig
      go_wp2_with fail
      refine (unhide HAW).mono ?_
      rintro e w2 ⟨rfl, hw⟩
      have H2 := hide hw
      clear hw HAW
      go_wp2_with fail
      go_ret
      exact ⟨rfl, unhide H2⟩
    by_cases k4 : b < 2
    · clear hbig
      go_wp2_with fail
      refine (unhide HAW).mono ?_
      rintro e w2 ⟨rfl, hw⟩
      have H2 := hide hw
      clear hw HAW
      go_wp2_with fail
      go_ret
      exact ⟨rfl, unhide H2⟩
    have k5 : 15 < b := by omega
    clear hbig
    go_wp2_with fail
    refine (unhide HAW).mono ?_
    rintro e w2 ⟨rfl, hw⟩
    have H2 := hide hw
    clear hw HAW
    go_wp2_with fail
    go_ret
    exact ⟨rfl, unhide H2⟩
  have k1 : ¬ (20 : Int) < (N : Int) := by omega
  have k2 : ¬ a < 2 := by omega
  have k3 : ¬ 15 < a := by omega
  have k4 : ¬ b < 2 := by omega
  have k5 : ¬ 15 < b := by omega
  clear hbig
  obtain ⟨i, rfl⟩ : ∃ i : Nat, a = (i : Int) := ⟨a.toNat, by omega⟩
  obtain ⟨j, rfl⟩ : ∃ j : Nat, b = (j : Int) := ⟨b.toNat, by omega⟩
  have hi : i < 16 := by omega
  have hj : j < 16 := by omega
  have hN20 : N ≤ 20 := by omega
  have HSK : Hid (Calls Try.prog 6 #[.pointer (some ⟨s, 0, none⟩), .int .i64 (i : Int)] w1 fun e w' => e = .returned (.tuple #[.int .i64 1, .int .i64 0]) ∧ Hid (DS W1 w' x s 1 [] (r0.set i (some 0)) 4)) := hide (by
    obtain ⟨q, Z, H, L, F⟩ := unhide h1
    have := ssink_any F (k := 0) rfl rfl (ok_nwSt (ok_0 _ 1)) (by decide) (i : Int)
    obtain ⟨e1, e2, e3⟩ := d_sink (rootS 9) hi
    rw [e1, e2, e3] at this
    refine this.mono (fun e w' h => ⟨h.1, hide ?_⟩)
    obtain ⟨H', L', F', K'⟩ := unhide h.2
    exact ⟨f, q, Z, H', L', rootS 9, F', K'⟩)
  have HDU : Hid (∀ W, DS W1 W x s 1 [] (r0.set i (some 0)) 4 → Calls Try.prog 7 #[.pointer (some ⟨s, 0, none⟩), .int .i64 (i : Int), .int .i64 (j : Int)] W fun e w' => e = .returned (.int .i64 0) ∧ Hid (DS W1 w' x s (if i = j then 1 else 2) [] ((r0.set i (some 0)).set j (some 0)) 6)) := hide (fun W D => by
    obtain ⟨f, q, Z, H, L, s0, F, K⟩ := D
    have := sdup_any F (k := 0) rfl rfl K (by decide) (i : Int) (j : Int)
    obtain ⟨e1, e2⟩ := d_dup s0 hi hj
    rw [e1, e2] at this
    refine this.mono (fun e w' h => ⟨h.1, hide ?_⟩)
    obtain ⟨H', F', K'⟩ := unhide h.2
    exact ⟨f, q, Z, H', L, s0, F', K'⟩)
  clear h1 HB hev
  go_wp2_with fail
  refine (unhide HSK).mono ?_
  rintro e w2 ⟨rfl, h2⟩
  have HD2 := hide (unhide HDU w2 (unhide h2))
  obtain ⟨b2, b3⟩ := unhide HBX w2 (unhide h2).env
  clear h2 HSK HDU b0 b1
  go_wp2_with fail
  refine (unhide HD2).mono ?_
  rintro e w3 ⟨rfl, h3⟩
  obtain ⟨r, hr⟩ : ∃ r, r = (r0.set i (some 0)).set j (some 0) := ⟨_, rfl⟩
  obtain ⟨m, hm⟩ : ∃ m, m = if i = j then 1 else 2 := ⟨_, rfl⟩
  rw [← hr, ← hm] at h3
  have HR := hide hr
  have HM := hide hm
  clear HD2 b2 b3 hr hm
  go_wp2_with fail
  go_loopw [12, 13] (fun v u wr => ∃ (z : Nat) (al : List UInt8), u = .int .i64 (z : Int) ∧ z ≤ N ∧ v = .string (BA al) ∧ al.length ≤ 100 * z ∧ Hid (DS W1 wr x s m al r (6 + z))) (fun _ u _ => N + 1 - (intOf u).toNat)
  case atStart => exact ⟨0, [], rfl, Nat.zero_le _, rfl, Nat.zero_le _, h3⟩
  case round =>
    clear h3
    obtain ⟨z, al, rfl, hz, rfl, hal, HS⟩ := hrel
    obtain ⟨b0, b1⟩ := unhide HBX wr (unhide HS).env
    by_cases hlt : z < N
    · have h1 : (z : Int) < (N : Int) := by omega
      have h0 : (0 : Int) ≤ (z : Int) := by omega
      obtain ⟨y, hy⟩ : ∃ y, l[z]? = some y := ⟨_, List.getElem?_eq_getElem (by rw [← unhide HN]; exact hlt)⟩
      obtain ⟨g, o, had, hg, hcell⟩ := unhide HROW z y hy
      have q0 := unhide HIN wr (unhide HS).env g (o + z) _ hg hcell
      have HQ : Hid (∀ W, EnvB W (Bas.of W1) → W.cell? ⟨g, o + z, none⟩ = some (.string (BA y))) := hide (fun W hW => unhide HIN W hW g (o + z) _ hg hcell)
      subst had
      obtain ⟨D, hD⟩ : ∃ D, D = BA y := ⟨_, rfl⟩
      obtain ⟨ld, hld⟩ : ∃ ld, ld = y.length := ⟨_, rfl⟩
      have hDs : D.size = ld := by rw [hD, hld]; rfl
      rw [← hD] at q0 HQ
      clear hy hg hcell HROW
      by_cases hb : (100 : Int) < (ld : Int)
      · have HAW := hide (unhide HA wr (unhide HS).env)
        clear HS HIN HROW2 HQ hD hld
        go_wp2_with fail
        refine (unhide HAW).mono ?_
        rintro e w4 ⟨rfl, hw⟩
        have H2 := hide hw
        clear hw
        go_wp2_with fail
        go_ret
        exact ⟨rfl, unhide H2⟩
      · have HW : Hid (∀ fd : Nat, (fd = i ∨ fd = j) → Calls Try.prog 8 #[.pointer (some ⟨s, 0, none⟩), .int .i64 (fd : Int), .string D] wr fun e w' => e = .returned (.tuple #[.int .i64 (ld : Int), .int .i64 0]) ∧ Hid (DS W1 w' x s m (al ++ y) r (6 + (z + 1)))) := hide (fun fd hf => by
          have hn : numL r (fd : Int) = some 0 := by
            rw [unhide HR]
            rcases hf with rfl | rfl
            · exact numL_at hi (r_two hi hj).1
            · exact numL_at hj (r_two hi hj).2.1
          have := (unhide HS).write (by omega) hn y (by omega)
          rw [← hD, ← hld] at this
          exact this)
        have HAP : Hid (BA al ++ D = BA (al ++ y)) := hide (by rw [hD]; exact Pi.BA_add al y)
        have hl2 : (al ++ y).length ≤ 100 * (z + 1) := by rw [List.length_append, ← hld]; omega
        obtain ⟨G, hG⟩ : ∃ G, G = BA al := ⟨_, rfl⟩
        have hGs : G.size ≤ 2000 := by rw [hG]; show al.length ≤ 2000; omega
        have hld2 : ld ≤ 100 := by omega
        rw [← hG] at HAP ⊢
        have HEV := (unhide HS).env
        clear HS hal hD hld hG HA
        by_cases hin : z < N2
        · have h3 : (z : Int) < (N2 : Int) := by omega
          obtain ⟨bq, hbq⟩ : ∃ bq, Q[z]? = some bq := ⟨_, List.getElem?_eq_getElem (by rw [← unhide HN2]; exact hin)⟩
          obtain ⟨g2, o2, had2, hg2, hcell2⟩ := unhide HROW2 z bq hbq
          have q1 : wr.cell? ⟨g2, o2 + z, none⟩ = some (.bool bq) := unhide HIN wr HEV g2 (o2 + z) _ hg2 hcell2
          subst had2
          clear hbq hg2 hcell2 HROW2 HIN HEV
          cases bq with
          | true =>
            have HC := hide (unhide HW j (.inr rfl))
            clear HW
            go_wp2_with fail
            refine (unhide HC).mono ?_
            rintro e w4 ⟨rfl, h4⟩
            have q4 := unhide HQ w4 (unhide h4).env
            clear HC q0 q1 b0 b1
            go_wp2_with fail
            go_roundw
            case rel => exact ⟨z + 1, al ++ y, by go_num, by omega, by rw [unhide HAP], hl2, h4⟩
            case measure => simp [intOf]; omega
          | false =>
            have HC := hide (unhide HW i (.inl rfl))
            clear HW
            go_wp2_with fail
            refine (unhide HC).mono ?_
            rintro e w4 ⟨rfl, h4⟩
            have q4 := unhide HQ w4 (unhide h4).env
            clear HC q0 q1 b0 b1
            go_wp2_with fail
            go_roundw
            case rel => exact ⟨z + 1, al ++ y, by go_num, by omega, by rw [unhide HAP], hl2, h4⟩
            case measure => simp [intOf]; omega
        · have h3 : ¬ (z : Int) < (N2 : Int) := by omega
          have HC := hide (unhide HW i (.inl rfl))
          clear HW HROW2 HIN HEV
          go_wp2_with fail
          refine (unhide HC).mono ?_
          rintro e w4 ⟨rfl, h4⟩
          have q4 := unhide HQ w4 (unhide h4).env
          clear HC q0 b0 b1
          go_wp2_with fail
          go_roundw
          case rel => exact ⟨z + 1, al ++ y, by go_num, by omega, by rw [unhide HAP], hl2, h4⟩
          case measure => simp [intOf]; omega
    · have h1 : ¬ (z : Int) < (N : Int) := by omega
      have hcl : (i = j ∧ m = 1) ∨ (i ≠ j ∧ m = 2) := by
        rw [unhide HM]
        by_cases h : i = j
        · rw [if_pos h]; exact .inl ⟨h, rfl⟩
        · rw [if_neg h]; exact .inr ⟨h, rfl⟩
      have HFIN : Hid (∀ W, DS W1 W x s 0 al r0 (6 + z + 2) → Calls Try.prog 11 #[.pointer (some ⟨x, 0, none⟩), .int .i64 1] W fun e w' => e = .returned (.string (BA al)) ∧ w'.cell? ⟨x, 1, none⟩ = some (.int .i64 0) ∧ Hid (EnvB w' (Bas.of W1) ∧ ∃ L : Fay, Blk w' s 66 (setC L x r0))) := hide (fun W D => D.sunk.mono (fun e w' h => ⟨h.1, h.2.2.1, hide ⟨h.2.1, h.2.2.2⟩⟩))
      have HCL : Hid (∀ W, Below wr.heap.size wr W → Calls Try.prog 9 #[.pointer (some ⟨s, 0, none⟩), .int .i64 (i : Int)] W fun e w' => e = .returned (.int .i64 0) ∧ w'.cell? ⟨bx, 0, none⟩ = some (.int .i64 (i : Int)) ∧ w'.cell? ⟨bx, 1, none⟩ = some (.int .i64 (j : Int)) ∧ Hid (DS W1 w' x s (m - 1) al (r.set i none) (6 + z + 1))) := hide (fun W hW => by
        have := ((unhide HS).below hW).close (by omega) hi (by rw [unhide HR]; exact (r_two hi hj).1)
        refine this.mono (fun e w' h => ?_)
        obtain ⟨c0, c1⟩ := unhide HBX w' (unhide h.2).env
        exact ⟨h.1, c0, c1, h.2⟩)
      have HOP : Hid (∀ W ov, ov = (if 0 < m - 1 then (1 : Int) else 0) → DS W1 W x s (m - 1) al (r.set i none) (6 + z + 1) → Calls Try.prog 10 #[.pointer (some ⟨x, 0, none⟩)] W fun e w' => e = .returned (.int .i64 ov) ∧ w'.cell? ⟨bx, 0, none⟩ = some (.int .i64 (i : Int)) ∧ w'.cell? ⟨bx, 1, none⟩ = some (.int .i64 (j : Int)) ∧ Hid (DS W1 w' x s (m - 1) al (r.set i none) (6 + z + 1))) := hide (fun W ov hov D => by
        refine D.open.mono (fun e w' h => ?_)
        obtain ⟨c0, c1⟩ := unhide HBX W D.env
        rw [h.2, hov]
        exact ⟨h.1, c0, c1, hide D⟩)
      obtain ⟨M, hM⟩ : ∃ M, M = BA al := ⟨_, rfl⟩
      rw [← hM] at HFIN ⊢
      clear HS HROW HROW2 HIN hal hM
      rcases hcl with ⟨hij, rfl⟩ | ⟨hij, rfl⟩
      · subst hij
        have e0 : r.set i none = r0 := by rw [unhide HR]; exact (r_both i hi i hi).2
        have HC2 : Hid (∀ W, DS W1 W x s 0 al r0 (6 + z + 1) → Calls Try.prog 9 #[.pointer (some ⟨s, 0, none⟩), .int .i64 (i : Int)] W fun e w' => ∃ E, e = .returned (.int .i64 E) ∧ Hid (DS W1 w' x s 0 al r0 (6 + z + 2))) := hide (fun W D => (D.closeNo (by omega) (r_none i hi)).mono (fun e w' h => by
          obtain ⟨⟨E, h1⟩, h2⟩ := h
          exact ⟨E, h1, h2⟩))
        have HOP2 := hide (fun W => unhide HOP W 0 rfl)
        rw [e0] at HCL HOP2
        clear HOP HR HM e0
        go_upto_region 20 with fail
        go_region_held3 (fun w' => w'.cell? ⟨bx, 0, none⟩ = some (.int .i64 (i : Int)) ∧ w'.cell? ⟨bx, 1, none⟩ = some (.int .i64 (i : Int))) (go_keep) (first
          | (go_at_call 9; refine (unhide HCL _ (by first | exact Below.refl _ _ | exact below_drew _ _)).mono ?_; rintro e w5 ⟨rfl, k0, k1, h5⟩)
          | (go_at_call 10; refine (unhide HOP2 _ (unhide h5)).mono ?_; rintro e w6 ⟨rfl, k2, k3, h6⟩))
        clear HCL HOP2
        go_wp2_with fail
        refine (unhide HC2 _ (unhide h6)).mono ?_
        rintro e w7 ⟨E7, rfl, h7⟩
        have HSU := hide (unhide HFIN w7 (unhide h7))
        clear HC2 h6 h5 h7 HFIN
        go_wp2_with fail
        refine (unhide HSU).mono ?_
        rintro e w8 ⟨rfl, q8, h8⟩
        have HXO := hide (xopen_cell q8)
        clear HSU q8
        go_wp2_with fail
        refine (unhide HXO).mono ?_
        rintro e w9 ⟨rfl, hw9⟩
        subst hw9
        have HLB : Hid (Calls Try.prog 12 #[.pointer (some ⟨s, 0, none⟩)] w9 fun e w' => ∃ ad cap, e = .returned (.slice ad 0 cap) ∧ Hid (Below w9.heap.size w9 w')) := hide (by
          obtain ⟨L, hL⟩ := (unhide h8).2
          exact (list_blk hL).mono (fun e w' h => by
            obtain ⟨ad, cap, h1, h2⟩ := h
            exact ⟨ad, cap, h1, hide h2⟩))
        clear HXO
        go_wp2_with fail
        refine (unhide HLB).mono ?_
        rintro e w10 ⟨ad3, cap3, rfl, h10⟩
        have HAW := hide (unhide HA w10 ((unhide h8).1.below (unhide h10)))
        clear HLB h8 h10 HA
        go_wp2_with fail
        refine (unhide HAW).mono ?_
        rintro e w11 ⟨rfl, hw⟩
        have H11 := hide hw
        clear hw HAW
        go_wp2_with fail
        go_ret
        exact ⟨rfl, unhide H11⟩
      · have HC2 : Hid (∀ W, DS W1 W x s 1 al (r.set i none) (6 + z + 1) → Calls Try.prog 9 #[.pointer (some ⟨s, 0, none⟩), .int .i64 (j : Int)] W fun e w' => ∃ E, e = .returned (.int .i64 E) ∧ Hid (DS W1 w' x s 0 al r0 (6 + z + 2))) := hide (fun W D => by
          have := D.close (by omega) hj (by rw [unhide HR]; exact r_left hi hj hij)
          rw [show (r.set i none).set j none = r0 by rw [unhide HR]; exact (r_both i hi j hj).1] at this
          exact this.mono (fun e w' h => ⟨0, h.1, h.2⟩))
        have HOP2 := hide (fun W => unhide HOP W 1 rfl)
        have hne : ¬ (i : Int) = (j : Int) := by omega
        clear HOP HR HM
        go_upto_region 20 with fail
        go_region_held3 (fun w' => w'.cell? ⟨bx, 0, none⟩ = some (.int .i64 (i : Int)) ∧ w'.cell? ⟨bx, 1, none⟩ = some (.int .i64 (j : Int))) (go_keep) (first
          | (go_at_call 9; refine (unhide HCL _ (by first | exact Below.refl _ _ | exact below_drew _ _)).mono ?_; rintro e w5 ⟨rfl, k0, k1, h5⟩)
          | (go_at_call 10; refine (unhide HOP2 _ (unhide h5)).mono ?_; rintro e w6 ⟨rfl, k2, k3, h6⟩))
        clear HCL HOP2
        go_wp2_with fail
        refine (unhide HC2 _ (unhide h6)).mono ?_
        rintro e w7 ⟨E7, rfl, h7⟩
        have HSU := hide (unhide HFIN w7 (unhide h7))
        clear HC2 h6 h5 h7 HFIN
        go_wp2_with fail
        refine (unhide HSU).mono ?_
        rintro e w8 ⟨rfl, q8, h8⟩
        have HXO := hide (xopen_cell q8)
        clear HSU q8
        go_wp2_with fail
        refine (unhide HXO).mono ?_
        rintro e w9 ⟨rfl, hw9⟩
        subst hw9
        have HLB : Hid (Calls Try.prog 12 #[.pointer (some ⟨s, 0, none⟩)] w9 fun e w' => ∃ ad cap, e = .returned (.slice ad 0 cap) ∧ Hid (Below w9.heap.size w9 w')) := hide (by
          obtain ⟨L, hL⟩ := (unhide h8).2
          exact (list_blk hL).mono (fun e w' h => by
            obtain ⟨ad, cap, h1, h2⟩ := h
            exact ⟨ad, cap, h1, hide h2⟩))
        clear HXO
        go_wp2_with fail
        refine (unhide HLB).mono ?_
        rintro e w10 ⟨ad3, cap3, rfl, h10⟩
        have HAW := hide (unhide HA w10 ((unhide h8).1.below (unhide h10)))
        clear HLB h8 h10 HA
        go_wp2_with fail
        refine (unhide HAW).mono ?_
        rintro e w11 ⟨rfl, hw⟩
        have H11 := hide hw
        clear hw HAW
        go_wp2_with fail
        go_ret
        exact ⟨rfl, unhide H11⟩

end Go.Proofs.Ytemologkibcdoaa

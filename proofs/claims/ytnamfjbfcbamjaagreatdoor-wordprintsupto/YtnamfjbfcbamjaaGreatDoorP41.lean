/-
  The law's Size: it reads alone.
  The law's Size is a word's size, where it is small.
  Words that came in, and how much they hold.
-/
import Derived.Test.YtnamfjbfcbamjaaGreatDoorP17
import Derived.Test.YtnamfjbfcbamjaaGreatDoorP10
import Derived.Deep.QuietTactic
import Derived.BigQuiet
import Derived.Test.YtnamfjbfcbamjaaGreatDoorP06
import Derived.Test.YtnamfjbfcbamjaaGreatDoorP40
import Derived.Deep.Slices
namespace Go.Proofs.YtnamfjbfcbamjaaGreatDoor
open Go.RowKit
mutual
def szP : Prt → Int
  | .mk _ _ _ _ _ s => szL 0 s
def szL : Int → List Prt → Int
  | n, [] => n
  | n, p :: r => if n ≤ 600 then szL (IntKind.i64.wrap (IntKind.i64.wrap (IntKind.i64.wrap (n + 1) + min (p.text.length : Int) 1000) + szP p)) r else n
end
theorem szP_sub (p : Prt) : szP p = szL 0 p.sub := by cases p; rw [szP]; rfl
theorem szL_nil (n : Int) : szL n [] = n := by rw [szL]
theorem szL_cons (n : Int) (p : Prt) (r : List Prt) : szL n (p :: r) = if n ≤ 600 then szL (IntKind.i64.wrap (IntKind.i64.wrap (IntKind.i64.wrap (n + 1) + min (p.text.length : Int) 1000) + szP p)) r else n := by rw [szL]
set_option maxRecDepth 20000 in
set_option maxHeartbeats 4000000 in
theorem size_all : ∀ (N : Nat) (a : List Prt) (x : Value) (w : World) (A : Nat → Prop), SizeOf.sizeOf a ≤ N → WAt w A x a → Calls Tryz.prog 11 #[x] w fun e w' => e = .returned (.int .i64 (szL 0 a)) ∧ ∃ m, w' = w.drewN m
  | 0, a, _, _, _, hN, _ => absurd hN (by cases a <;> simp)
  | N + 1, a, x, w, A, hN, hx => by
    obtain ⟨ada, capa, rfl, hla⟩ := hx.len
    have HX := hide hx
    have HS := hide (size_all N)
    have HSN := hide hN
    clear hx hN
    go_enter Tryz.func11, Tryz.ntmps11
    go_wp2
    go_loopw [3, 4] (fun s i wr => ∃ (k : Nat) (n : Int), k ≤ a.length ∧ i = .int .i64 k ∧ s = .int .i64 n ∧ Hid (szL n (a.drop k) = szL 0 a) ∧ Hid (∃ m, wr = w.drewN m)) (fun _ i _ => a.length - (intOf i).toNat)
    case atStart => exact ⟨0, 0, Nat.zero_le _, rfl, rfl, hide rfl, hide ⟨0, rfl⟩⟩
    case round =>
      obtain ⟨k, n, hk, rfl, rfl, HE, HM⟩ := hrel
      by_cases hlt : k < a.length
      · obtain ⟨p, hp⟩ := get_ex hlt
        have hdr : a.drop k = p :: a.drop (k + 1) := by
          obtain ⟨h1, h2⟩ := List.getElem?_eq_some_iff.1 hp
          rw [List.drop_eq_getElem_cons h1, h2]
        by_cases hn : n ≤ 600
        · obtain ⟨n1, hn1⟩ : ∃ z, IntKind.i64.wrap (n + 1) = z := ⟨_, rfl⟩
          obtain ⟨mm, hmm⟩ : ∃ z, min (p.text.length : Int) 1000 = z := ⟨_, rfl⟩
          obtain ⟨n2, hn2⟩ : ∃ z, IntKind.i64.wrap (n1 + mm) = z := ⟨_, rfl⟩
          obtain ⟨q, hq⟩ : ∃ z, szP p = z := ⟨_, rfl⟩
          obtain ⟨n3, hn3⟩ : ∃ z, IntKind.i64.wrap (n2 + q) = z := ⟨_, rfl⟩
          have HE2 : Hid (szL n3 (a.drop (k + 1)) = szL 0 a) := hide (by rw [← unhide HE, hdr, szL_cons, if_pos hn, hn1, hmm, hn2, hq, hn3])
          have hwat : WAt wr A (.slice ada a.length capa) a := (unhide HX).kept (fun k _ => by obtain ⟨m, hm⟩ := unhide HM; rw [hm]; rfl) (fun _ h => h)
          obtain ⟨g, o, v, had, hg, c0, c1, c2, c3, c4, c5, hsub⟩ := hwat.part hp
          obtain ⟨va, vc, rfl, _⟩ := hsub.len
          subst had
          have hlt1 : (k : Int) < (a.length : Int) := by omega
          have HQ : Hid (∀ W : World, (∃ m, W = wr.drewN m) → Calls Tryz.prog 11 #[.slice va p.sub.length vc] W fun e w' => e = .returned (.int .i64 q) ∧ ∃ m, w' = W.drewN m) := hide (fun W hW => by
            have := unhide HS p.sub _ W A (by have := sub_lt p a (mem_of hp); have := unhide HSN; omega) (hsub.kept (fun k _ => by obtain ⟨m, hm⟩ := hW; rw [hm]; rfl) (fun _ h => h))
            rwa [← szP_sub, hq] at this)
          clear hwat hsub hp hdr hq HE hg c0 c2 c3 c4
          go_wp2_with fail
          go_quiet ((go_at_call 11; exact Calls.quiet_of (unhide HQ _ ⟨_, rfl⟩)))
          go_wp2
          go_roundw
          case rel => exact ⟨k + 1, n3, by omega, by go_num, rfl, HE2, hide (by obtain ⟨m, hm⟩ := unhide HM; subst hm; exact ⟨_, World.drewN_drewN _ _ _⟩)⟩
          case measure => simp [intOf]; omega
        · have HE2 : Hid (n = szL 0 a) := hide (by rw [← unhide HE, hdr, szL_cons, if_neg hn])
          have hlt1 : (k : Int) < (a.length : Int) := by omega
          clear hp hdr HE
          go_wp2
          go_ret
          exact ⟨ret_int (unhide HE2), unhide HM⟩
      · go_wp2
        go_ret
        refine ⟨ret_int ?_, unhide HM⟩
        rw [← unhide HE, List.drop_eq_nil_of_le (by omega), szL_nil]
end Go.Proofs.YtnamfjbfcbamjaaGreatDoor
namespace Go.Proofs.YtnamfjbfcbamjaaGreatDoor
mutual
def cntP : Prt → Nat
  | .mk _ _ _ _ _ s => 1 + cntL s
def cntL : List Prt → Nat
  | [] => 0
  | p :: r => cntP p + cntL r
end
theorem cntP_mk (k : Int) (t : List UInt8) (q : Bool) (op : Int) (c : Bool) (s : List Prt) : cntP (.mk k t q op c s) = 1 + cntL s := by rw [cntP]
theorem cntL_nil : cntL [] = 0 := by rw [cntL]
theorem cntL_cons (p : Prt) (r : List Prt) : cntL (p :: r) = cntP p + cntL r := by rw [cntL]
theorem wrap_id {x : Int} (h0 : 0 ≤ x) (h1 : x < 4000000000000) : IntKind.i64.wrap x = x := by rw [IntKind.wrap_i64]; omega
mutual
theorem szP_le : ∀ p : Prt, cntP p ≤ 2000000 → 0 ≤ szP p ∧ szP p + 1601 ≤ 1601 * (cntP p : Int)
  | .mk k t q op c s, h => by
    rw [cntP] at h ⊢
    rw [szP]
    have := szL_le s 0 (by omega) (by omega) (by omega)
    push_cast
    omega
theorem szL_le : ∀ (l : List Prt) (n : Int), 0 ≤ n → n ≤ 4000000000 → cntL l ≤ 2000000 → 0 ≤ szL n l ∧ szL n l ≤ n + 1601 * (cntL l : Int)
  | [], n, h0, h1, h => by
    rw [szL]
    omega
  | p :: r, n, h0, h1, h => by
    rw [cntL] at h
    rw [szL, cntL]
    split
    · rename_i hn
      have hp := szP_le p (by omega)
      have hm0 : 0 ≤ min (p.text.length : Int) 1000 := by omega
      have hm1 : min (p.text.length : Int) 1000 ≤ 1000 := by omega
      rw [wrap_id (x := n + 1) (by omega) (by omega), wrap_id (x := n + 1 + min (p.text.length : Int) 1000) (by omega) (by omega), wrap_id (x := n + 1 + min (p.text.length : Int) 1000 + szP p) (by omega) (by omega)]
      have := szL_le r (n + 1 + min (p.text.length : Int) 1000 + szP p) (by omega) (by omega) (by omega)
      push_cast
      omega
    · push_cast
      omega
end
mutual
theorem szP_is : ∀ p : Prt, cntP p ≤ 2000000 → szP p ≤ 600 → szP p = (tszL p.sub : Int)
  | .mk k t q op c s, h, h6 => by
    rw [cntP] at h
    rw [szP] at h6 ⊢
    have := szL_is s 0 (by omega) (by omega) h6
    show _ = (tszL s : Int)
    omega
theorem szL_is : ∀ (l : List Prt) (n : Int), 0 ≤ n → cntL l ≤ 2000000 → szL n l ≤ 600 → szL n l = n + (tszL l : Int)
  | [], n, h0, h, h6 => by rw [szL, tszL]; simp
  | p :: r, n, h0, h, h6 => by
    rw [cntL] at h
    rw [szL] at h6 ⊢
    rw [tszL]
    split at h6
    · rename_i hn
      have hp := szP_le p (by omega)
      have hm0 : 0 ≤ min (p.text.length : Int) 1000 := by omega
      have hm1 : min (p.text.length : Int) 1000 ≤ 1000 := by omega
      rw [if_pos hn]
      rw [wrap_id (x := n + 1) (by omega) (by omega), wrap_id (x := n + 1 + min (p.text.length : Int) 1000) (by omega) (by omega), wrap_id (x := n + 1 + min (p.text.length : Int) 1000 + szP p) (by omega) (by omega)] at h6 ⊢
      have h9 := szL_is r (n + 1 + min (p.text.length : Int) 1000 + szP p) (by omega) (by omega) h6
      have hp6 : szP p ≤ 600 := by omega
      have h8 := szP_is p (by omega) hp6
      have h7 : tszP p = 1 + p.text.length + tszL p.sub := tszP_eq p
      rw [h9]
      push_cast
      omega
    · omega
end
end Go.Proofs.YtnamfjbfcbamjaaGreatDoor
namespace Go.Proofs.YtnamfjbfcbamjaaGreatDoor
open Go.ChangeShapes Go.WideShapes Go.ChangeAt Go.RowKit
theorem cP : Tryz.prog.cellsOf 37 = 6 := by kernel_rfl
theorem cW : Tryz.prog.cellsOf 24 = 1 := by kernel_rfl
theorem max63 : maxLen = 9223372036854775807 := by decide
theorem add_at2 (b o j : Nat) : ((⟨b, o, none⟩ : Addr).add j) = ⟨b, o + j, none⟩ := by
  by_cases h : j = 0
  · subst h; simp [Addr.add]
  · simp [Addr.add, h]
theorem cell_lt {W : World} {p : Addr} {v : Value} (h : W.cell? p = some v) : p.block < W.heap.size := by
  rcases Nat.lt_or_ge p.block W.heap.size with h' | h'
  · exact h'
  · unfold World.cell? at h
    rw [Array.getElem?_eq_none h'] at h
    cases h
theorem agg_bulk {H : Type} (a b c d e f : DataW H) : Rows.uptoBulk f + 1 ≤ Rows.uptoBulk (.agg [a, b, c, d, e, f]) := by
  simp only [Rows.uptoBulk, Rows.uptoBulkAll]
  omega
theorem map_bulk {H : Type} (R : Nat → Prt) (D : Nat → DataW H) : ∀ L : List Nat, (∀ i, i ∈ L → cntP (R i) ≤ Rows.uptoBulk (D i)) → cntL (L.map R) ≤ Rows.uptoBulkAll (L.map D)
  | [], _ => by simp [cntL_nil]
  | i :: r, h => by
    have h1 := h i (by simp)
    have h2 := map_bulk R D r (fun j hj => h j (by simp [hj]))
    rw [List.map_cons, List.map_cons, cntL_cons]
    simp only [Rows.uptoBulkAll]
    omega
set_option maxRecDepth 20000 in
set_option maxHeartbeats 1000000 in
theorem words_all {H : Type} {enc : TypeId × Value → H} {W : World} : ∀ (N fuel : Nat) (v : Value) (x : DataW H × List MemPlace), SizeOf.sizeOf x.1 ≤ N → DataW.trod enc Tryz.prog W 0 (fun _ => true) true fuel 24 [v] = some x → ∃ l, WAt W (fun k => k < W.heap.size) v l ∧ cntL l ≤ Rows.uptoBulk x.1
  | 0, _, _, x, hN, _ => absurd hN (by obtain ⟨d, _⟩ := x; cases d <;> simp)
  | N + 1, fuel, v, x, hN, h => by
    rcases Deep.open_slice und_word h with ⟨h0, _⟩ | ⟨a, len, cap, m, n, D, Pl, hcs, _, hl, hm, hmm, hxx, hx⟩
    · simp at h0
      subst h0
      exact ⟨[], wat_nil _ _ _ _, by rw [cntL_nil]; exact Nat.zero_le _⟩
    · simp at hcs
      subst hcs
      rw [if_pos rfl] at hmm
      subst hmm
      rw [max63] at hm
      by_cases h0 : len = 0
      · subst h0
        exact ⟨[], wat_nil _ _ _ _, by rw [cntL_nil]; exact Nat.zero_le _⟩
      have each : ∀ i, ∃ y : Prt × Value, i < len → W.cell? (a.add (i * 6)) = some (.int .i64 y.1.kind) ∧ W.cell? (a.add (i * 6 + 1)) = some (.string (BA y.1.text)) ∧ W.cell? (a.add (i * 6 + 2)) = some (.bool y.1.quote) ∧
          W.cell? (a.add (i * 6 + 3)) = some (.int .i64 y.1.op) ∧ W.cell? (a.add (i * 6 + 4)) = some (.bool y.1.colon) ∧ W.cell? (a.add (i * 6 + 5)) = some y.2 ∧ WAt W (fun k => k < W.heap.size) y.2 y.1.sub ∧ cntP y.1 ≤ Rows.uptoBulk (D i) := by
        intro i
        by_cases hi : i < len
        · obtain ⟨cs, h1, h2⟩ := hx i (by omega)
          rw [cP] at h1
          obtain ⟨_, hlen, hcell⟩ := World.cells?_some h1
          obtain ⟨xs, k, hk, hxy, _, hxl, hf⟩ := DataW.trod_struct Tryz.underlying37 h2
          match xs, hxl, cs, hlen with
          | [y0, y1, y2, y3, y4, y5], _, [v0, v1, v2, v3, v4, v5], _ =>
            have g0 := hf 0 _ rfl
            have g1 := hf 1 _ rfl
            have g2 := hf 2 _ rfl
            have g3 := hf 3 _ rfl
            have g4 := hf 4 _ rfl
            have g5 := hf 5 _ rfl
            simp [c3, c4, c9, cW] at g0 g1 g2 g3 g4 g5
            have e0 := hcell 0 (by omega)
            have e1 := hcell 1 (by omega)
            have e2 := hcell 2 (by omega)
            have e3 := hcell 3 (by omega)
            have e4 := hcell 4 (by omega)
            have e5 := hcell 5 (by omega)
            rw [Deep.add_add] at e0 e1 e2 e3 e4 e5
            obtain ⟨z0, hz0, _⟩ := DataW.trod_int Tryz.underlying3 g0
            obtain ⟨z1, hz1, _⟩ := DataW.trod_string Tryz.underlying9 g1
            obtain ⟨z2, hz2, _⟩ := DataW.trod_bool Tryz.underlying4 g2
            obtain ⟨z3, hz3, _⟩ := DataW.trod_int Tryz.underlying3 g3
            obtain ⟨z4, hz4, _⟩ := DataW.trod_bool Tryz.underlying4 g4
            have hlt : SizeOf.sizeOf y5.1 ≤ N := by
              have hDi : SizeOf.sizeOf (D i) < SizeOf.sizeOf ((List.range len).map D) := List.sizeOf_lt_of_mem (List.mem_map.2 ⟨i, List.mem_range.2 hi, rfl⟩)
              have hx1 : x.1 = .slice ((List.range len).map D) ((List.range (m - len)).map fun j => D (len + j)) := by rw [hxx]
              rw [hx1, DataW.slice.sizeOf_spec] at hN
              have hD : D i = .agg [y0.1, y1.1, y2.1, y3.1, y4.1, y5.1] := by
                have := congrArg Prod.fst hxy
                simpa using this
              rw [hD, DataW.agg.sizeOf_spec] at hDi
              simp only [List.cons.sizeOf_spec] at hDi
              omega
            obtain ⟨l, hws, hcn⟩ := words_all N k v5 y5 hlt g5
            have hDb : Rows.uptoBulk y5.1 + 1 ≤ Rows.uptoBulk (D i) := by
              have hD : D i = .agg [y0.1, y1.1, y2.1, y3.1, y4.1, y5.1] := by
                have := congrArg Prod.fst hxy
                simpa using this
              rw [hD]
              exact agg_bulk _ _ _ _ _ _
            simp at e0 e1 e2 e3 e4 e5
            simp at hz0 hz1 hz2 hz3 hz4
            subst hz0 hz1 hz2 hz3 hz4
            exact ⟨(.mk z0 z1.data.toList z2 z3 z4 l, v5), fun _ => ⟨e0, e1, e2, e3, e4, e5, hws, by rw [cntP_mk]; omega⟩⟩
        · exact ⟨(.mk 0 [] false 0 false [], .slice none 0 0), fun h => absurd h hi⟩
      obtain ⟨R, hR⟩ : ∃ R : Nat → Prt × Value, ∀ i, i < len → W.cell? (a.add (i * 6)) = some (.int .i64 (R i).1.kind) ∧ W.cell? (a.add (i * 6 + 1)) = some (.string (BA (R i).1.text)) ∧ W.cell? (a.add (i * 6 + 2)) = some (.bool (R i).1.quote) ∧
          W.cell? (a.add (i * 6 + 3)) = some (.int .i64 (R i).1.op) ∧ W.cell? (a.add (i * 6 + 4)) = some (.bool (R i).1.colon) ∧ W.cell? (a.add (i * 6 + 5)) = some (R i).2 ∧ WAt W (fun k => k < W.heap.size) (R i).2 (R i).1.sub ∧ cntP (R i).1 ≤ Rows.uptoBulk (D i) := ⟨fun i => Classical.choose (each i), fun i => Classical.choose_spec (each i)⟩
      obtain ⟨b, o, spot⟩ := a
      have hspot : spot = none := by simpa [Addr.add] using World.cell?_spot (hR 0 (by omega)).1
      subst hspot
      refine ⟨(List.range len).map fun i => (R i).1, ⟨some ⟨b, o, none⟩, m, by simp, by simp; omega, .inr ⟨b, o, rfl, ?_, PsAt.of (fun i p hi => ?_)⟩⟩, ?_⟩
      · exact cell_lt (p := (⟨b, o, none⟩ : Addr).add (0 * 6)) (hR 0 (by omega)).1
      · rw [List.getElem?_map] at hi
        obtain ⟨j, hj, hp⟩ := Option.map_eq_some_iff.1 hi
        obtain ⟨hj1, hj2⟩ := List.getElem?_eq_some_iff.1 hj
        have hjl : i < len := by simpa using hj1
        have hji : j = i := by simpa using hj2.symm
        subst hji
        have := hR j hjl
        simp only [add_at2] at this
        rw [← hp]
        generalize R j = rj at this ⊢
        obtain ⟨⟨k, t, q, op, c, s⟩, u⟩ := rj
        exact (PAt_mk ..).2 ⟨this.1, this.2.1, this.2.2.1, this.2.2.2.1, this.2.2.2.2.1, u, this.2.2.2.2.2.1, this.2.2.2.2.2.2.1⟩
      · have h1 := map_bulk (fun i => (R i).1) D (List.range len) (fun i hi => (hR i (List.mem_range.1 hi)).2.2.2.2.2.2.2)
        have hx1 : x.1 = .slice ((List.range len).map D) ((List.range (m - len)).map fun j => D (len + j)) := by rw [hxx]
        rw [hx1]
        simp only [Rows.uptoBulk]
        omega
theorem words_of {H : Type} {enc : TypeId × Value → H} {W : World} {v : Value} {d : DataW H} {p : List MemPlace} (hok : ∃ a len cap, v = .slice a len cap) (h : DataW.Trod enc Tryz.prog W 0 (fun _ => true) true 24 v d p) : ∃ l, WAt W (fun k => k < W.heap.size) v l ∧ cntL l ≤ Rows.uptoBulk d := by
  obtain ⟨a0, len0, cap0, rfl⟩ := hok
  obtain ⟨fuel, h⟩ := h
  exact words_all _ fuel _ (d, p) (Nat.le_refl _) (by simpa [Value.cells] using h)
end Go.Proofs.YtnamfjbfcbamjaaGreatDoor

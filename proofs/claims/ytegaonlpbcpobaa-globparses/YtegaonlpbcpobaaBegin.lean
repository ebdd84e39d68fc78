/-
  The contract of the iterator over the beginnings that a list of tokens fits.
-/
import Derived.Test.YtegaonlpbcpobaaStep
import Derived.Test.YtegaonlpbcpobaaRange
import Derived.RegionIn
import Derived.Laws.IdiomCopy
namespace Go.Proofs.Ytegaonlpbcpobaa
open Go.RowKit Go.Shelf

attribute [local go_sem] Oper.semAt_some

/-- A slice of tokens, in blocks below n. -/
def TokRow (n : Nat) (W : World) (v : Value) (ts : List Tok) : Prop :=
  ∃ (a : Option Addr) (cap : Nat), v = .slice a ts.length cap ∧ ts.length ≤ cap ∧ ts.length ≤ 9223372036854775807 ∧ (ts = [] ∨ ∃ b o, a = some ⟨b, o, none⟩ ∧ b < n ∧
    ∀ j (hj : j < ts.length), ∃ rv, TokAt n W b (o + j * 4) rv ts[j])

theorem TokRow.below {n : Nat} {W W' : World} {v : Value} {ts : List Tok} (h : TokRow n W v ts) (hb : Below n W W') : TokRow n W' v ts := by
  obtain ⟨a, cap, rfl, hc, hm, h⟩ := h
  refine ⟨a, cap, rfl, hc, hm, ?_⟩
  rcases h with h | ⟨b, o, rfl, hlt, hcell⟩
  · exact .inl h
  · refine .inr ⟨b, o, rfl, hlt, fun j hj => ?_⟩
    obtain ⟨rv, ht⟩ := hcell j hj
    exact ⟨rv, ht.toTokCells.of_block (hb.block _ hlt), ht.row.below hb⟩

/-- Which beginnings the tokens fit. -/
def tabF (s : ByteArray) (ts : List Tok) : Nat → Bool := ts.foldl (fun f t => stepF t s f) (fun j => j == 0)
theorem tabF_take (s : ByteArray) (ts : List Tok) (k : Nat) (h : k < ts.length) : tabF s (ts.take (k + 1)) = stepF ts[k] s (tabF s (ts.take k)) := by
  unfold tabF
  rw [← List.take_append_getElem h, List.foldl_append]
  rfl

def arr128 : Array Value := Array.replicate 128 (.bool false)
theorem z70 (w : World) : (zeroValue 70).run Try.prog w = .ok (.agg arr128) w := by kernel_rfl


theorem setCells_size (b : Nat) : ∀ (vs : List Value) (o : Nat) (w : World), (w.setCells b o vs).heap.size = w.heap.size
  | [], _, _ => rfl
  | v :: r, o, w => by rw [World.setCells, setCells_size b r]; simp
theorem setCells_block (b : Nat) : ∀ (vs : List Value) (o : Nat) (w : World) (k : Nat), k ≠ b → (w.setCells b o vs).heap[k]? = w.heap[k]?
  | [], _, _, _, _ => rfl
  | v :: r, o, w, k, h => by rw [World.setCells, setCells_block b r _ _ _ h]; exact Below.heap_setCell _ _ _ _ h
theorem setCells_rest (b : Nat) : ∀ (vs : List Value) (o : Nat) (w : World), (w.setCells b o vs).os = w.os ∧ (w.setCells b o vs).tape = w.tape ∧ (w.setCells b o vs).output = w.output
  | [], _, _ => ⟨rfl, rfl, rfl⟩
  | v :: r, o, w => by rw [World.setCells]; exact setCells_rest b r _ _
theorem below_setCells {B b o : Nat} {a w : World} (h : Below B a w) (hB : B ≤ b) (vs : List Value) : Below B a (w.setCells b o vs) :=
  h.trans ⟨(setCells_rest b vs o w).1, (setCells_rest b vs o w).2.1, (setCells_rest b vs o w).2.2, by rw [setCells_size]; exact Nat.le_refl _, fun k hk => setCells_block b vs o w k (by omega)⟩

theorem info4 : (Try.prog.info? 4).map (·.size) = some 1 := by kernel_rfl
/-- 'copy(now, next)': now holds what next holds. -/
theorem copy_row (w : World) (nb mb n nc mc : Nat) (f g : Nat → Bool) (hn : BoolsAt w nb 0 n f) (hm : BoolsAt w mb 0 n g) (hf : FreeAt w nb) :
    ∃ w', (∀ ty, (Builtin.copy_ #[22, 22] ty #[.slice (some ⟨nb, 0, none⟩) n nc, .slice (some ⟨mb, 0, none⟩) n mc]).run Try.prog w = .ok (goInt n) w') ∧
      BoolsAt w' nb 0 n g ∧ FreeAt w' nb ∧ Turns nb 1 w w' ∧ w'.heap.size = w.heap.size := by
  have hl : ((List.range n).map fun j => Value.bool (g j)).length = n := by simp
  refine ⟨w.setCells nb 0 ((List.range n).map fun j => Value.bool (g j)), fun ty => ?_, ?_, ?_, ?_, setCells_size _ _ _ _⟩
  · have := run_copy_cells (P := Try.prog) w 22 22 ty 4 nb 0 n nc ⟨mb, 0, none⟩ n mc ((List.range n).map fun j => Value.bool (g j)) Try.underlying22 info4 (by simp) ?_ ?_ ?_ ?_
    · rw [hl] at this; exact this
    · intro j v hj
      have hj' : j < n := by
        have := (List.getElem?_eq_some_iff.1 hj).1
        simpa using this
      have e : v = .bool (g j) := by
        rw [List.getElem?_map, List.getElem?_range hj'] at hj
        simpa using hj.symm
      subst e
      have := hm j hj'
      unfold Addr.add
      split
      · next h0 => subst h0; simpa using this
      · simpa using this
    · intro j hj
      rw [hl] at hj
      rw [hn j hj]; rfl
    · intro j _
      exact hf (0 + j)
    · intro v hv
      obtain ⟨j, _, rfl⟩ := List.mem_map.1 hv
      rfl
  · intro j hj
    have := World.cell?_setCells_in nb ((List.range n).map fun j => Value.bool (g j)) 0 w (fun i hi => by rw [hl] at hi; rw [hn i hi]; rfl) j (by rw [hl]; exact hj)
    rw [this]; simp
  · intro j; rw [World.frozen?_setCells]; exact hf j
  · exact ⟨(setCells_rest nb _ 0 w).1, (setCells_rest nb _ 0 w).2.1, (setCells_rest nb _ 0 w).2.2, by rw [setCells_size]; exact Nat.le_refl _, fun k _ hk => setCells_block nb _ 0 w k (by omega)⟩

theorem bools_new {W : World} {b : Nat} (h : W.heap[b]? = some (.cells arr128 70)) : BoolsAt W b 0 128 (fun _ => false) := by
  intro j hj
  unfold World.cell?
  simp only [h]
  simp [arr128, hj]
theorem free_new {W : World} {b : Nat} {cs : Array Value} {t : TypeId} (h : W.heap[b]? = some (.cells cs t)) : FreeAt W b := by
  intro j
  unfold World.frozen?
  simp only [h]
  simp

theorem addr_ne {b b' o o' : Nat} (h : b ≠ b' ∨ o ≠ o') : (⟨b, o, none⟩ : Addr) ≠ ⟨b', o', none⟩ := by
  intro e
  simp at e
  omega

theorem filter_hit {f : Nat → Bool} {k : Nat} (h : f k = true) : (List.range (k + 1)).filter f = (List.range k).filter f ++ [k] := by rw [List.range_succ, List.filter_append]; simp [h]
theorem filter_miss {f : Nat → Bool} {k : Nat} (h : f k = false) : (List.range (k + 1)).filter f = (List.range k).filter f := by rw [List.range_succ, List.filter_append]; simp [h]

set_option maxRecDepth 100000 in
set_option maxHeartbeats 2000000 in
theorem begin_small (l bs bl n₀ : Nat) (a : Option Addr) (cap : Nat) (s : ByteArray) (ts : List Tok) (J Jx : List Nat → World → Prop) (W : World) (hs : s.size < 128)
    (hbs : W.cell? ⟨bs, 0, none⟩ = some (.string s)) (hbl : W.cell? ⟨bl, 0, none⟩ = some (.slice a ts.length cap)) (hrow : TokRow n₀ W (.slice a ts.length cap) ts) (hn₀ : n₀ ≤ W.heap.size)
    (hJ : ∀ s A B, J s A → Turns W.heap.size 2 A B → J s B)
    (hY : ∀ pre x W1, J pre W1 → W.heap.size + 2 ≤ W1.heap.size → pre.length < s.size + 1 → YieldAt Fence.wide 1 Try.prog l #[.int .i64 (x : Nat)] W1 fun e W' =>
      (e = .returned (.bool true) ∧ J (pre ++ [x]) W' ∧ Spares W.heap.size 2 (fun _ => False) W1 W') ∨ (e = .returned (.bool false) ∧ Jx (pre ++ [x]) W')) (h0 : J [] W) :
    CallsIn Fence.wide 2 Try.prog 36 #[.func (.yield l) #[] #[], .pointer (some ⟨bs, 0, none⟩), .pointer (some ⟨bl, 0, none⟩)] W fun e W' => (∃ v, e = .returned v) ∧
      (J ((List.range (s.size + 1)).filter (tabF s ts)) W' ∨ ∃ k, k ≤ s.size ∧ tabF s ts k = true ∧ Jx ((List.range (k + 1)).filter (tabF s ts)) W') := by
  have hbsl := cell_lt hbs
  have hbll := cell_lt hbl
  have hmax : ts.length ≤ 9223372036854775807 := by obtain ⟨_, _, _, _, h, _⟩ := hrow; exact h
  have HROW := hide hrow
  have HJ := hide hJ
  have HY := hide hY
  have H0 := hide h0
  clear hrow hJ hY h0
  refine callsIn_of_wp Try.func36 rfl trivial ?_
  simp only [Try.ntmps36, List.size_toArray, List.length_cons, List.length_nil, Nat.reduceAdd, Nat.reduceSub, Array.replicate_succ, Array.replicate_zero, List.push_toArray, List.append_toArray, List.nil_append, List.cons_append]
  have hz70 := z70
  gi_wp2
  gi_region
  clear hz70
  obtain ⟨W2, hW2⟩ : ∃ X, X = ((W.alloc (.cells arr128 70)).alloc (.cells arr128 70)).drew := ⟨_, rfl⟩
  rw [← hW2]
  have hB2 : Below W.heap.size W W2 := by rw [hW2]; exact (((Below.refl _ _).alloc (Nat.le_refl _) _).alloc (by simp) _).drew
  have hsz2 : W2.heap.size = W.heap.size + 2 := by rw [hW2]; simp [World.drew]
  have hbs2 := (hB2.cell (p := ⟨bs, 0, none⟩) hbsl).trans hbs
  have hbl2 := (hB2.cell (p := ⟨bl, 0, none⟩) hbll).trans hbl
  have hh : W2.heap[W.heap.size]? = some (.cells arr128 70) ∧ W2.heap[W.heap.size + 1]? = some (.cells arr128 70) := by
    rw [hW2]
    constructor
    · exact (Below.heap_alloc _ _ _ (by simp)).trans (World.alloc_heap_new W _)
    · have := World.alloc_heap_new (W.alloc (.cells arr128 70)) (.cells arr128 70)
      rwa [World.size_alloc] at this
  obtain ⟨nb, hnb⟩ : ∃ x, x = W.heap.size := ⟨_, rfl⟩
  obtain ⟨mb, hmb⟩ : ∃ x, x = W.heap.size + 1 := ⟨_, rfl⟩
  rw [← hmb, ← hnb] at hh
  rw [← hmb, ← hnb]
  have HN : Hid (BoolsAt W2 nb 0 128 (fun _ => false)) := hide (bools_new hh.1)
  have HM : Hid (BoolsAt W2 mb 0 128 (fun _ => false)) := hide (bools_new hh.2)
  have HFN : Hid (FreeAt W2 nb) := hide (free_new hh.1)
  have HFM : Hid (FreeAt W2 mb) := hide (free_new hh.2)
  have hc0 : W2.cell? ⟨nb, 0, none⟩ = some (.bool false) := (unhide HN) 0 (by omega)
  have hf0 : W2.frozen? ⟨nb, 0, none⟩ = false := (unhide HFN) 0
  have hnb1 : W.heap.size ≤ nb := by omega
  have hmb1 : W.heap.size ≤ mb := by omega
  have hnb2 : nb < W2.heap.size := by omega
  have hmb2 : mb < W2.heap.size := by omega
  have hnb3 : nb < W.heap.size + 2 := by omega
  have hne : mb ≠ nb := by omega
  have hs2 : W.heap.size + 2 ≤ W2.heap.size := by omega
  have hbs0 := hbs
  clear hh hbs hbl hW2 hnb hmb hsz2
  gi_wp2
  gi_region
  gi_wp2
  gi_loopw [39] (fun i wr => ∃ (k : Nat), k ≤ ts.length ∧ i = .int .i64 k ∧ BoolsAt wr nb 0 (s.size + 1) (tabF s (ts.take k)) ∧ (∀ j, j < s.size + 1 → ∃ x, wr.cell? ⟨mb, 0 + j, none⟩ = some (.bool x)) ∧ FreeAt wr nb ∧ FreeAt wr mb ∧ Below W.heap.size W wr ∧ nb < wr.heap.size ∧ mb < wr.heap.size ∧ W.heap.size + 2 ≤ wr.heap.size) (fun i _ => ts.length - (intOf i).toNat)
  case atStart =>
    refine ⟨0, Nat.zero_le _, rfl, ?_, ?_, free_put (unhide HFN), free_put (unhide HFM), hB2.drew.setCell (p := ⟨nb, 0, none⟩) hnb1 _, by simpa using hnb2, by simpa using hmb2, by simpa using hs2⟩
    · intro j hj
      by_cases e : j = 0
      · subst e
        exact World.cell?_setCell_same _ _ _ hc0
      · refine (World.cell?_setCell_other W2 ⟨nb, 0, none⟩ ⟨nb, 0 + j, none⟩ _ (addr_ne (.inr (by omega)))).trans ?_
        refine ((unhide HN) j (by omega)).trans ?_
        simp [tabF, e]
    · intro j hj
      exact ⟨_, (World.cell?_setCell_other W2 ⟨nb, 0, none⟩ ⟨mb, 0 + j, none⟩ _ (addr_ne (.inl (by omega)))).trans ((unhide HM) j (by omega))⟩
  case round =>
    obtain ⟨k, hk, rfl, hN, hM, hFN, hFM, hB, hn2, hm2, hsz⟩ := hrel
    have hbs3 := (hB.cell (p := ⟨bs, 0, none⟩) hbsl).trans hbs0
    by_cases hlt : k < ts.length
    · obtain ⟨rv, htok⟩ : ∃ rv, ∃ b o, a = some ⟨b, o, none⟩ ∧ TokAt n₀ W b (o + k * 4) rv ts[k] := by
        obtain ⟨a', cap', he, _, _, hr⟩ := unhide HROW
        cases he
        rcases hr with hr | ⟨b, o, rfl, _, hc⟩
        · simp [hr] at hlt
        · obtain ⟨rv, ht⟩ := hc k hlt
          exact ⟨rv, b, o, rfl, ht⟩
      obtain ⟨b, o, rfl, htok⟩ := htok
      have hb : b < W.heap.size := htok.toTokCells.lt
      obtain ⟨k0, k1, k2, k3⟩ := htok.toTokCells.of_block (hB.block _ hb)
      have HR := hide (htok.row.below (hB.mono hn₀))
      obtain ⟨ra, rcap, hrv, _⟩ := htok.row
      have HNk := hide hN
      have HMk := hide hM
      have HFNk := hide hFN
      have HFMk := hide hFM
      have HBk := hide hB
      subst hrv
      clear hN hM hFN hFM hB htok hc0 hf0 hbs2 hbl2 HN HM HFN HFM hB2
      have hbs4 : (wr.alloc (.cells #[.int .i64 ts[k].kind, .int .u8 ts[k].c, .bool ts[k].nt, .slice ra ts[k].rs.length rcap] 47)).cell? ⟨bs, 0, none⟩ = some (.string s) :=
        (((Below.refl _ wr).alloc (Nat.le_refl _) _).cell (p := ⟨bs, 0, none⟩) (by simp; omega)).trans hbs3
      gi_wp2_with fail
      obtain ⟨W3, hW3⟩ : ∃ X, X = wr.alloc (.cells #[.int .i64 ts[k].kind, .int .u8 ts[k].c, .bool ts[k].nt, .slice ra ts[k].rs.length rcap] 47) := ⟨_, rfl⟩
      rw [← hW3] at hbs4 ⊢
      have hB3 : Below wr.heap.size wr W3 := by rw [hW3]; exact (Below.refl _ _).alloc (Nat.le_refl _) _
      have HT3 : Hid (TokAt n₀ W3 wr.heap.size 0 (.slice ra ts[k].rs.length rcap) ts[k]) := by
        refine hide ⟨?_, (unhide HR).below (hB3.mono (by omega))⟩
        rw [hW3]
        exact ⟨by go_simp, by go_simp, by go_simp, by go_simp⟩
      have hsz3 : W3.heap.size = wr.heap.size + 1 := by rw [hW3]; simp
      clear hW3
      have HS := hide (step_any n₀ wr.heap.size 0 (.slice ra ts[k].rs.length rcap) ts[k] s nb 0 128 mb 0 128 (tabF s (ts.take k)) W3 (unhide HT3) (by omega) ((unhide HNk).of_block (hB3.block _ hn2))
        (fun j hj => by obtain ⟨x, hx⟩ := (unhide HMk) j hj; exact ⟨x, (hB3.cell (p := ⟨mb, 0 + j, none⟩) hm2).trans hx⟩) ((unhide HFMk).of_block (hB3.block _ hm2)) hne (by omega) (by omega))
      clear hbs4
      refine ⟨trivial, ?_⟩
      refine (callsIn_wide.2 (unhide HS)).mono ?_
      rintro e W4 ⟨⟨u, rfl⟩, g1, g2, g3⟩
      have hN4 : BoolsAt W4 nb 0 (s.size + 1) (tabF s (ts.take k)) := ((unhide HNk).of_block (hB3.block _ hn2)).of_block (g2.block _ (by omega) (by omega))
      have hF4 : FreeAt W4 nb := ((unhide HFNk).of_block (hB3.block _ hn2)).of_block (g2.block _ (by omega) (by omega))
      obtain ⟨W5, hcp, hN5, hF5, hT5, hsz5⟩ := copy_row W4 nb mb (s.size + 1) 128 128 _ _ hN4 g1 hF4
      have hsz4 := g2.size
      have hB5 : Below W.heap.size W W5 := ((unhide HBk).trans (hB3.mono (by omega))).trans ((g2.below hmb1 (by omega)).trans (hT5.below hnb1 (by omega)))
      have HN5 := hide hN5
      have HF5 := hide hF5
      have HB5 := hide hB5
      have HM5 : Hid (BoolsAt W5 mb 0 (s.size + 1) (stepF ts[k] s (tabF s (ts.take k)))) := hide (g1.of_block (hT5.block _ (by omega) (by omega)))
      have HFM5 : Hid (FreeAt W5 mb) := hide (g3.of_block (hT5.block _ (by omega) (by omega)))
      clear HS g1 g2 g3 hN4 hF4 hN5 hF5 hB5 hT5 HT3 HR HNk HMk HFNk HFMk HBk hB3
      gi_wp2
      go_roundw
      case rel => exact ⟨k + 1, by omega, by go_num, by rw [tabF_take s ts k hlt]; exact unhide HN5, fun j hj => ⟨_, (unhide HM5) j hj⟩, unhide HF5, unhide HFM5, unhide HB5, by omega, by omega, by omega⟩
      case measure => simp [intOf]; omega
    · have hke : k = ts.length := by omega
      subst hke
      rw [List.take_length] at hN
      have HN1 := hide hN
      have HJ1 : Hid (J [] wr) := hide ((unhide HJ) _ _ _ (unhide H0) (Turns.of_below hB))
      clear hN hM hFM hFN hB hB2 HN HM HFN HFM hc0 hf0 hbs2 hbl2 hbs3
      obtain ⟨wA, hwA⟩ : ∃ x, x = wr := ⟨_, rfl⟩
      subst hwA
      gi_wp2
      gi_loopw [53] (fun i w2 => ∃ (k : Nat), k ≤ s.size + 1 ∧ i = .int .i64 k ∧ BoolsAt w2 nb 0 (s.size + 1) (tabF s ts) ∧ J ((List.range k).filter (tabF s ts)) w2 ∧ W.heap.size + 2 ≤ w2.heap.size) (fun i _ => s.size + 1 - (intOf i).toNat)
      case atStart => exact ⟨0, Nat.zero_le _, rfl, unhide HN1, unhide HJ1, hsz⟩
      case round =>
        obtain ⟨k, hk', rfl, hN, hj, hsz6⟩ := hrel
        by_cases hlt2 : k < s.size + 1
        · have hck := hN k hlt2
          rw [Nat.zero_add] at hck
          have HN2 := hide hN
          have HJ2 := hide hj
          clear hN hj
          rcases Bool.eq_false_or_eq_true (tabF s ts k) with ht | ht
          · rw [ht] at hck
            have hlen : ((List.range k).filter (tabF s ts)).length < s.size + 1 := by
              have := List.length_filter_le (tabF s ts) (List.range k)
              rw [List.length_range] at this
              omega
            obtain ⟨fn, tmps, assign, body, hy, hR⟩ := (unhide HY) _ k wr (unhide HJ2) hsz6 hlen
            gi_wp2
            refine hR.mono ?_
            rintro e W3 (⟨rfl, hJ3, hk3⟩ | ⟨rfl, hJx3⟩)
            · have HN3 : Hid (BoolsAt W3 nb 0 (s.size + 1) (tabF s ts)) := hide ((unhide HN2).of_block (hk3.block _ (.inr (by omega))))
              have HJ3 := hide hJ3
              have hsz7 := hk3.size
              clear hJ3 hk3 HN2 HJ2
              gi_wp2
              go_roundw
              case rel => exact ⟨k + 1, by omega, by go_num, unhide HN3, by rw [filter_hit ht]; exact unhide HJ3, by omega⟩
              case measure => simp [intOf]; omega
            · gi_wp2
              refine bodyPost_ret (results_none rfl _ _ _) rfl ?_
              exact ⟨⟨_, rfl⟩, .inr ⟨k, by omega, ht, by rw [filter_hit ht]; exact hJx3⟩⟩
          · rw [ht] at hck
            gi_wp2
            refine ⟨fun _ h => (by cases h), ?_⟩
            gi_wp2
            go_roundw
            case rel => exact ⟨k + 1, by omega, by go_num, unhide HN2, by rw [filter_miss ht]; exact unhide HJ2, by omega⟩
            case measure => simp [intOf]; omega
        · have hke : k = s.size + 1 := by omega
          subst hke
          have HJ2 := hide hj
          clear hN hj
          gi_wp2
          go_end0
          exact ⟨⟨_, rfl⟩, .inl (unhide HJ2)⟩

end Go.Proofs.Ytegaonlpbcpobaa

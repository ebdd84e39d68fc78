/-
  The contract of the iterator over the beginnings, of texts of 128 bytes and more.
-/
import Derived.Test.YtegaonlpbcpobaaBegin
import Derived.Laws.MakeOwn
namespace Go.Proofs.Ytegaonlpbcpobaa
open Go.RowKit Go.Shelf

attribute [local go_sem] Oper.semAt_some

def made (n : Nat) : Array Value := madeCells #[.bool false] n
theorem info4z : (Try.prog.info? 4).map (fun i => (i.zero, i.size, i.bytes)) = some (some (.bool false), 1, 1) := by kernel_rfl
theorem mk_any (w : World) (c : Nat) (h : c ≤ 100000) : (Instr.makeSlice 22 (.int .i64 ((c : Int) + 1)) (.int .i64 ((c : Int) + 1))).run Try.prog w = .ok (.slice (some ⟨w.heap.size, 0, none⟩) (c + 1) (c + 1)) (w.alloc (.cells (made (c + 1)) 4)) := by
  obtain ⟨i0, hi, hz0, hz1, hz2⟩ := info_parts info4z
  have := run_make (P := Try.prog) w 22 4 i0 (.bool false) Try.underlying22 hi hz0 .i64 .i64 ((c : Int) + 1) ((c : Int) + 1) (by omega) (Int.le_refl _) (by rw [hz2]; omega) (by omega)
  rw [this, hz1]
  have e : ((c : Int) + 1).toNat = c + 1 := by omega
  rw [e, Nat.mul_one]
  rfl
theorem made_bools {W : World} {b n : Nat} (h : W.heap[b]? = some (.cells (made n) 4)) : BoolsAt W b 0 n (fun _ => false) := by
  intro j hj
  unfold World.cell?
  simp only [h]
  simp [made, madeCells, hj, Nat.mod_one]

set_option maxRecDepth 100000 in
set_option maxHeartbeats 2000000 in
theorem begin_big (l bs bl n₀ : Nat) (a : Option Addr) (cap : Nat) (s : ByteArray) (ts : List Tok) (J Jx : List Nat → World → Prop) (W : World) (hs : 128 ≤ s.size) (hs9 : s.size ≤ 100000)
    (hbs : W.cell? ⟨bs, 0, none⟩ = some (.string s)) (hbl : W.cell? ⟨bl, 0, none⟩ = some (.slice a ts.length cap)) (hrow : TokRow n₀ W (.slice a ts.length cap) ts) (hn₀ : n₀ ≤ W.heap.size)
    (hJ : ∀ s A B, J s A → Turns W.heap.size 4 A B → J s B)
    (hY : ∀ pre x W1, J pre W1 → W.heap.size + 4 ≤ W1.heap.size → pre.length < s.size + 1 → YieldAt Fence.wide 1 Try.prog l #[.int .i64 (x : Nat)] W1 fun e W' =>
      (e = .returned (.bool true) ∧ J (pre ++ [x]) W' ∧ Spares W.heap.size 4 (fun _ => False) W1 W') ∨ (e = .returned (.bool false) ∧ Jx (pre ++ [x]) W')) (h0 : J [] W) :
    CallsIn Fence.wide 2 Try.prog 36 #[.func (.yield l) #[] #[], .pointer (some ⟨bs, 0, none⟩), .pointer (some ⟨bl, 0, none⟩)] W fun e W' => (∃ v, e = .returned v) ∧
      (J ((List.range (s.size + 1)).filter (tabF s ts)) W' ∨ ∃ k, k ≤ s.size ∧ tabF s ts k = true ∧ Jx ((List.range (k + 1)).filter (tabF s ts)) W') := by
  have hbsl := cell_lt hbs
  have hbll := cell_lt hbl
  have hmax : ts.length ≤ 9223372036854775807 := by obtain ⟨_, _, _, _, h, _⟩ := hrow; exact h
  have HROW := hide hrow
  have HJ := hide hJ
  have HY := hide hY
  have H0 := hide h0
  clear hrow hJ hY h0
  refine callsIn_of_wp Try.func36 rfl trivial ?_
  simp only [Try.ntmps36, List.size_toArray, List.length_cons, List.length_nil, Nat.reduceAdd, Nat.reduceSub, Array.replicate_succ, Array.replicate_zero, List.push_toArray, List.append_toArray, List.nil_append, List.cons_append]
  have hz70 := z70
  have hmk := fun w => mk_any w s.size hs9
  gi_wp2
  gi_region
  clear hz70
  obtain ⟨WA, hWA⟩ : ∃ X, X = ((W.alloc (.cells arr128 70)).alloc (.cells arr128 70)).drew := ⟨_, rfl⟩
  rw [← hWA]
  have hBA : Below W.heap.size W WA := by rw [hWA]; exact (((Below.refl _ _).alloc (Nat.le_refl _) _).alloc (by simp) _).drew
  have hszA : WA.heap.size = W.heap.size + 2 := by rw [hWA]; simp [World.drew]
  have hbsA := (hBA.cell (p := ⟨bs, 0, none⟩) hbsl).trans hbs
  have hblA := (hBA.cell (p := ⟨bl, 0, none⟩) hbll).trans hbl
  clear hWA
  obtain ⟨h0, hh0⟩ : ∃ x, x = W.heap.size := ⟨_, rfl⟩
  rw [← hh0]
  clear hh0
  have hszA1 : WA.heap.size ≤ W.heap.size + 2 := by omega
  have hszA2 : W.heap.size + 2 ≤ WA.heap.size := by omega
  clear hszA
  have hdec : decide ((128 : Int) ≤ (s.size : Int)) = true := by simp; omega
  have hbsB : (WA.alloc (.cells (made (s.size + 1)) 4)).cell? ⟨bs, 0, none⟩ = some (.string s) := (((Below.refl _ WA).alloc (Nat.le_refl _) _).cell (p := ⟨bs, 0, none⟩) (by simp; omega)).trans hbsA
  gi_wp2
  gi_region
  · obtain ⟨W2, hW2⟩ : ∃ X, X = ((WA.alloc (.cells (made (s.size + 1)) 4)).alloc (.cells (made (s.size + 1)) 4)).drew := ⟨_, rfl⟩
    rw [← hW2]
    have hB2 : Below W.heap.size W W2 := by rw [hW2]; exact ((hBA.alloc (by omega) _).alloc (by simp; omega) _).drew
    have hsz2 : W2.heap.size = W.heap.size + 4 := by rw [hW2]; simp [World.drew]; omega
    have hbs2 := (hB2.cell (p := ⟨bs, 0, none⟩) hbsl).trans hbs
    have hbl2 := (hB2.cell (p := ⟨bl, 0, none⟩) hbll).trans hbl
    have hh : W2.heap[WA.heap.size]? = some (.cells (made (s.size + 1)) 4) ∧ W2.heap[WA.heap.size + 1]? = some (.cells (made (s.size + 1)) 4) := by
      rw [hW2]
      constructor
      · exact (Below.heap_alloc _ _ _ (by simp)).trans (World.alloc_heap_new WA _)
      · have := World.alloc_heap_new (WA.alloc (.cells (made (s.size + 1)) 4)) (.cells (made (s.size + 1)) 4)
        rwa [World.size_alloc] at this
    obtain ⟨mb, hmb⟩ : ∃ x, x = WA.heap.size + 1 := ⟨_, rfl⟩
    obtain ⟨nb, hnb⟩ : ∃ x, x = WA.heap.size := ⟨_, rfl⟩
    rw [← hmb, ← hnb] at hh
    rw [← hmb, ← hnb]
    have HN : Hid (BoolsAt W2 nb 0 (s.size + 1) (fun _ => false)) := hide (made_bools hh.1)
    have HM : Hid (BoolsAt W2 mb 0 (s.size + 1) (fun _ => false)) := hide (made_bools hh.2)
    have HFN : Hid (FreeAt W2 nb) := hide (free_new hh.1)
    have HFM : Hid (FreeAt W2 mb) := hide (free_new hh.2)
    have hc0 : W2.cell? ⟨nb, 0, none⟩ = some (.bool false) := (unhide HN) 0 (by omega)
    have hf0 : W2.frozen? ⟨nb, 0, none⟩ = false := (unhide HFN) 0
    have hnb1 : W.heap.size ≤ nb := by omega
    have hmb1 : W.heap.size ≤ mb := by omega
    have hnb2 : nb < W2.heap.size := by omega
    have hmb2 : mb < W2.heap.size := by omega
    have hnb3 : nb < W.heap.size + 4 := by omega
    have hne : mb ≠ nb := by omega
    have hs2 : W.heap.size + 4 ≤ W2.heap.size := by omega
    have hbs0 := hbs
    clear hh hbs hbl hW2 hnb hmb hsz2 hbsA hblA hBA hszA1 hszA2 hmk hbsB
    gi_wp2
    gi_region
    gi_wp2
    gi_loopw [39] (fun i wr => ∃ (k : Nat), k ≤ ts.length ∧ i = .int .i64 k ∧ BoolsAt wr nb 0 (s.size + 1) (tabF s (ts.take k)) ∧ (∀ j, j < s.size + 1 → ∃ x, wr.cell? ⟨mb, 0 + j, none⟩ = some (.bool x)) ∧ FreeAt wr nb ∧ FreeAt wr mb ∧ Below W.heap.size W wr ∧ nb < wr.heap.size ∧ mb < wr.heap.size ∧ W.heap.size + 4 ≤ wr.heap.size) (fun i _ => ts.length - (intOf i).toNat)
    case atStart =>
      refine ⟨0, Nat.zero_le _, rfl, ?_, ?_, free_put (unhide HFN), free_put (unhide HFM), hB2.drew.setCell (p := ⟨nb, 0, none⟩) hnb1 _, by simpa using hnb2, by simpa using hmb2, by simpa using hs2⟩
      · intro j hj
        by_cases e : j = 0
        · subst e
          exact World.cell?_setCell_same _ _ _ hc0
        · refine (World.cell?_setCell_other W2 ⟨nb, 0, none⟩ ⟨nb, 0 + j, none⟩ _ (addr_ne (.inr (by omega)))).trans ?_
          refine ((unhide HN) j (by omega)).trans ?_
          simp [tabF, e]
      · intro j hj
        exact ⟨_, (World.cell?_setCell_other W2 ⟨nb, 0, none⟩ ⟨mb, 0 + j, none⟩ _ (addr_ne (.inl (by omega)))).trans ((unhide HM) j (by omega))⟩
    case round =>
      obtain ⟨k, hk, rfl, hN, hM, hFN, hFM, hB, hn2, hm2, hsz⟩ := hrel
      have hbs3 := (hB.cell (p := ⟨bs, 0, none⟩) hbsl).trans hbs0
      by_cases hlt : k < ts.length
      · obtain ⟨rv, htok⟩ : ∃ rv, ∃ b o, a = some ⟨b, o, none⟩ ∧ TokAt n₀ W b (o + k * 4) rv ts[k] := by
          obtain ⟨a', cap', he, _, _, hr⟩ := unhide HROW
          cases he
          rcases hr with hr | ⟨b, o, rfl, _, hc⟩
          · simp [hr] at hlt
          · obtain ⟨rv, ht⟩ := hc k hlt
            exact ⟨rv, b, o, rfl, ht⟩
        obtain ⟨b, o, rfl, htok⟩ := htok
        have hb : b < W.heap.size := htok.toTokCells.lt
        obtain ⟨k0, k1, k2, k3⟩ := htok.toTokCells.of_block (hB.block _ hb)
        have HR := hide (htok.row.below (hB.mono hn₀))
        obtain ⟨ra, rcap, hrv, _⟩ := htok.row
        have HNk := hide hN
        have HMk := hide hM
        have HFNk := hide hFN
        have HFMk := hide hFM
        have HBk := hide hB
        subst hrv
        clear hN hM hFN hFM hB htok hc0 hf0 hbs2 hbl2 HN HM HFN HFM hB2
        have hbs4 : (wr.alloc (.cells #[.int .i64 ts[k].kind, .int .u8 ts[k].c, .bool ts[k].nt, .slice ra ts[k].rs.length rcap] 47)).cell? ⟨bs, 0, none⟩ = some (.string s) :=
          (((Below.refl _ wr).alloc (Nat.le_refl _) _).cell (p := ⟨bs, 0, none⟩) (by simp; omega)).trans hbs3
        gi_wp2_with fail
        obtain ⟨W3, hW3⟩ : ∃ X, X = wr.alloc (.cells #[.int .i64 ts[k].kind, .int .u8 ts[k].c, .bool ts[k].nt, .slice ra ts[k].rs.length rcap] 47) := ⟨_, rfl⟩
        rw [← hW3] at hbs4 ⊢
        have hB3 : Below wr.heap.size wr W3 := by rw [hW3]; exact (Below.refl _ _).alloc (Nat.le_refl _) _
        have HT3 : Hid (TokAt n₀ W3 wr.heap.size 0 (.slice ra ts[k].rs.length rcap) ts[k]) := by
          refine hide ⟨?_, (unhide HR).below (hB3.mono (by omega))⟩
          rw [hW3]
          exact ⟨by go_simp, by go_simp, by go_simp, by go_simp⟩
        have hsz3 : W3.heap.size = wr.heap.size + 1 := by rw [hW3]; simp
        clear hW3
        have HS := hide (step_any n₀ wr.heap.size 0 (.slice ra ts[k].rs.length rcap) ts[k] s nb 0 (s.size + 1) mb 0 (s.size + 1) (tabF s (ts.take k)) W3 (unhide HT3) (by omega) ((unhide HNk).of_block (hB3.block _ hn2))
          (fun j hj => by obtain ⟨x, hx⟩ := (unhide HMk) j hj; exact ⟨x, (hB3.cell (p := ⟨mb, 0 + j, none⟩) hm2).trans hx⟩) ((unhide HFMk).of_block (hB3.block _ hm2)) hne (by omega) (by omega))
        clear hbs4
        refine ⟨trivial, ?_⟩
        refine (callsIn_wide.2 (unhide HS)).mono ?_
        rintro e W4 ⟨⟨u, rfl⟩, g1, g2, g3⟩
        have hN4 : BoolsAt W4 nb 0 (s.size + 1) (tabF s (ts.take k)) := ((unhide HNk).of_block (hB3.block _ hn2)).of_block (g2.block _ (by omega) (by omega))
        have hF4 : FreeAt W4 nb := ((unhide HFNk).of_block (hB3.block _ hn2)).of_block (g2.block _ (by omega) (by omega))
        obtain ⟨W5, hcp, hN5, hF5, hT5, hsz5⟩ := copy_row W4 nb mb (s.size + 1) (s.size + 1) (s.size + 1) _ _ hN4 g1 hF4
        have hsz4 := g2.size
        have hB5 : Below W.heap.size W W5 := ((unhide HBk).trans (hB3.mono (by omega))).trans ((g2.below hmb1 (by omega)).trans (hT5.below hnb1 (by omega)))
        have HN5 := hide hN5
        have HF5 := hide hF5
        have HB5 := hide hB5
        have HM5 : Hid (BoolsAt W5 mb 0 (s.size + 1) (stepF ts[k] s (tabF s (ts.take k)))) := hide (g1.of_block (hT5.block _ (by omega) (by omega)))
        have HFM5 : Hid (FreeAt W5 mb) := hide (g3.of_block (hT5.block _ (by omega) (by omega)))
        clear HS g1 g2 g3 hN4 hF4 hN5 hF5 hB5 hT5 HT3 HR HNk HMk HFNk HFMk HBk hB3
        gi_wp2
        go_roundw
        case rel => exact ⟨k + 1, by omega, by go_num, by rw [tabF_take s ts k hlt]; exact unhide HN5, fun j hj => ⟨_, (unhide HM5) j hj⟩, unhide HF5, unhide HFM5, unhide HB5, by omega, by omega, by omega⟩
        case measure => simp [intOf]; omega
      · have hke : k = ts.length := by omega
        subst hke
        rw [List.take_length] at hN
        have HN1 := hide hN
        have HJ1 : Hid (J [] wr) := hide ((unhide HJ) _ _ _ (unhide H0) (Turns.of_below hB))
        clear hN hM hFM hFN hB hB2 HN HM HFN HFM hc0 hf0 hbs2 hbl2 hbs3
        obtain ⟨wA, hwA⟩ : ∃ x, x = wr := ⟨_, rfl⟩
        subst hwA
        gi_wp2
        gi_loopw [53] (fun i w2 => ∃ (k : Nat), k ≤ s.size + 1 ∧ i = .int .i64 k ∧ BoolsAt w2 nb 0 (s.size + 1) (tabF s ts) ∧ J ((List.range k).filter (tabF s ts)) w2 ∧ W.heap.size + 4 ≤ w2.heap.size) (fun i _ => s.size + 1 - (intOf i).toNat)
        case atStart => exact ⟨0, Nat.zero_le _, rfl, unhide HN1, unhide HJ1, hsz⟩
        case round =>
          obtain ⟨k, hk', rfl, hN, hj, hsz6⟩ := hrel
          by_cases hlt2 : k < s.size + 1
          · have hck := hN k hlt2
            rw [Nat.zero_add] at hck
            have HN2 := hide hN
            have HJ2 := hide hj
            clear hN hj
            rcases Bool.eq_false_or_eq_true (tabF s ts k) with ht | ht
            · rw [ht] at hck
              have hlen : ((List.range k).filter (tabF s ts)).length < s.size + 1 := by
                have := List.length_filter_le (tabF s ts) (List.range k)
                rw [List.length_range] at this
                omega
              obtain ⟨fn, tmps, assign, body, hy, hR⟩ := (unhide HY) _ k wr (unhide HJ2) hsz6 hlen
              gi_wp2
              refine hR.mono ?_
              rintro e W3 (⟨rfl, hJ3, hk3⟩ | ⟨rfl, hJx3⟩)
              · have HN3 : Hid (BoolsAt W3 nb 0 (s.size + 1) (tabF s ts)) := hide ((unhide HN2).of_block (hk3.block _ (.inr (by omega))))
                have HJ3 := hide hJ3
                have hsz7 := hk3.size
                clear hJ3 hk3 HN2 HJ2
                gi_wp2
                go_roundw
                case rel => exact ⟨k + 1, by omega, by go_num, unhide HN3, by rw [filter_hit ht]; exact unhide HJ3, by omega⟩
                case measure => simp [intOf]; omega
              · gi_wp2
                refine bodyPost_ret (results_none rfl _ _ _) rfl ?_
                exact ⟨⟨_, rfl⟩, .inr ⟨k, by omega, ht, by rw [filter_hit ht]; exact hJx3⟩⟩
            · rw [ht] at hck
              gi_wp2
              refine ⟨fun _ h => (by cases h), ?_⟩
              gi_wp2
              go_roundw
              case rel => exact ⟨k + 1, by omega, by go_num, unhide HN2, by rw [filter_miss ht]; exact unhide HJ2, by omega⟩
              case measure => simp [intOf]; omega
          · have hke : k = s.size + 1 := by omega
            subst hke
            have HJ2 := hide hj
            clear hN hj
            gi_wp2
            go_end0
            exact ⟨⟨_, rfl⟩, .inl (unhide HJ2)⟩
  · obtain ⟨W2, hW2⟩ : ∃ X, X = ((WA.alloc (.cells (made (s.size + 1)) 4)).alloc (.cells (made (s.size + 1)) 4)).drew := ⟨_, rfl⟩
    rw [← hW2]
    have hB2 : Below W.heap.size W W2 := by rw [hW2]; exact ((hBA.alloc (by omega) _).alloc (by simp; omega) _).drew
    have hsz2 : W2.heap.size = W.heap.size + 4 := by rw [hW2]; simp [World.drew]; omega
    have hbs2 := (hB2.cell (p := ⟨bs, 0, none⟩) hbsl).trans hbs
    have hbl2 := (hB2.cell (p := ⟨bl, 0, none⟩) hbll).trans hbl
    have hh : W2.heap[WA.heap.size]? = some (.cells (made (s.size + 1)) 4) ∧ W2.heap[WA.heap.size + 1]? = some (.cells (made (s.size + 1)) 4) := by
      rw [hW2]
      constructor
      · exact (Below.heap_alloc _ _ _ (by simp)).trans (World.alloc_heap_new WA _)
      · have := World.alloc_heap_new (WA.alloc (.cells (made (s.size + 1)) 4)) (.cells (made (s.size + 1)) 4)
        rwa [World.size_alloc] at this
    obtain ⟨nb, hnb⟩ : ∃ x, x = WA.heap.size + 1 := ⟨_, rfl⟩
    obtain ⟨mb, hmb⟩ : ∃ x, x = WA.heap.size := ⟨_, rfl⟩
    rw [← hnb, ← hmb] at hh
    rw [← hnb, ← hmb]
    have HN : Hid (BoolsAt W2 nb 0 (s.size + 1) (fun _ => false)) := hide (made_bools hh.2)
    have HM : Hid (BoolsAt W2 mb 0 (s.size + 1) (fun _ => false)) := hide (made_bools hh.1)
    have HFN : Hid (FreeAt W2 nb) := hide (free_new hh.2)
    have HFM : Hid (FreeAt W2 mb) := hide (free_new hh.1)
    have hc0 : W2.cell? ⟨nb, 0, none⟩ = some (.bool false) := (unhide HN) 0 (by omega)
    have hf0 : W2.frozen? ⟨nb, 0, none⟩ = false := (unhide HFN) 0
    have hnb1 : W.heap.size ≤ nb := by omega
    have hmb1 : W.heap.size ≤ mb := by omega
    have hnb2 : nb < W2.heap.size := by omega
    have hmb2 : mb < W2.heap.size := by omega
    have hnb3 : nb < W.heap.size + 4 := by omega
    have hne : mb ≠ nb := by omega
    have hs2 : W.heap.size + 4 ≤ W2.heap.size := by omega
    have hbs0 := hbs
    clear hh hbs hbl hW2 hmb hnb hsz2 hbsA hblA hBA hszA1 hszA2 hmk hbsB
    gi_wp2
    gi_region
    gi_wp2
    gi_loopw [39] (fun i wr => ∃ (k : Nat), k ≤ ts.length ∧ i = .int .i64 k ∧ BoolsAt wr nb 0 (s.size + 1) (tabF s (ts.take k)) ∧ (∀ j, j < s.size + 1 → ∃ x, wr.cell? ⟨mb, 0 + j, none⟩ = some (.bool x)) ∧ FreeAt wr nb ∧ FreeAt wr mb ∧ Below W.heap.size W wr ∧ nb < wr.heap.size ∧ mb < wr.heap.size ∧ W.heap.size + 4 ≤ wr.heap.size) (fun i _ => ts.length - (intOf i).toNat)
    case atStart =>
      refine ⟨0, Nat.zero_le _, rfl, ?_, ?_, free_put (unhide HFN), free_put (unhide HFM), hB2.drew.setCell (p := ⟨nb, 0, none⟩) hnb1 _, by simpa using hnb2, by simpa using hmb2, by simpa using hs2⟩
      · intro j hj
        by_cases e : j = 0
        · subst e
          exact World.cell?_setCell_same _ _ _ hc0
        · refine (World.cell?_setCell_other W2 ⟨nb, 0, none⟩ ⟨nb, 0 + j, none⟩ _ (addr_ne (.inr (by omega)))).trans ?_
          refine ((unhide HN) j (by omega)).trans ?_
          simp [tabF, e]
      · intro j hj
        exact ⟨_, (World.cell?_setCell_other W2 ⟨nb, 0, none⟩ ⟨mb, 0 + j, none⟩ _ (addr_ne (.inl (by omega)))).trans ((unhide HM) j (by omega))⟩
    case round =>
      obtain ⟨k, hk, rfl, hN, hM, hFN, hFM, hB, hn2, hm2, hsz⟩ := hrel
      have hbs3 := (hB.cell (p := ⟨bs, 0, none⟩) hbsl).trans hbs0
      by_cases hlt : k < ts.length
      · obtain ⟨rv, htok⟩ : ∃ rv, ∃ b o, a = some ⟨b, o, none⟩ ∧ TokAt n₀ W b (o + k * 4) rv ts[k] := by
          obtain ⟨a', cap', he, _, _, hr⟩ := unhide HROW
          cases he
          rcases hr with hr | ⟨b, o, rfl, _, hc⟩
          · simp [hr] at hlt
          · obtain ⟨rv, ht⟩ := hc k hlt
            exact ⟨rv, b, o, rfl, ht⟩
        obtain ⟨b, o, rfl, htok⟩ := htok
        have hb : b < W.heap.size := htok.toTokCells.lt
        obtain ⟨k0, k1, k2, k3⟩ := htok.toTokCells.of_block (hB.block _ hb)
        have HR := hide (htok.row.below (hB.mono hn₀))
        obtain ⟨ra, rcap, hrv, _⟩ := htok.row
        have HNk := hide hN
        have HMk := hide hM
        have HFNk := hide hFN
        have HFMk := hide hFM
        have HBk := hide hB
        subst hrv
        clear hN hM hFN hFM hB htok hc0 hf0 hbs2 hbl2 HN HM HFN HFM hB2
        have hbs4 : (wr.alloc (.cells #[.int .i64 ts[k].kind, .int .u8 ts[k].c, .bool ts[k].nt, .slice ra ts[k].rs.length rcap] 47)).cell? ⟨bs, 0, none⟩ = some (.string s) :=
          (((Below.refl _ wr).alloc (Nat.le_refl _) _).cell (p := ⟨bs, 0, none⟩) (by simp; omega)).trans hbs3
        gi_wp2_with fail
        obtain ⟨W3, hW3⟩ : ∃ X, X = wr.alloc (.cells #[.int .i64 ts[k].kind, .int .u8 ts[k].c, .bool ts[k].nt, .slice ra ts[k].rs.length rcap] 47) := ⟨_, rfl⟩
        rw [← hW3] at hbs4 ⊢
        have hB3 : Below wr.heap.size wr W3 := by rw [hW3]; exact (Below.refl _ _).alloc (Nat.le_refl _) _
        have HT3 : Hid (TokAt n₀ W3 wr.heap.size 0 (.slice ra ts[k].rs.length rcap) ts[k]) := by
          refine hide ⟨?_, (unhide HR).below (hB3.mono (by omega))⟩
          rw [hW3]
          exact ⟨by go_simp, by go_simp, by go_simp, by go_simp⟩
        have hsz3 : W3.heap.size = wr.heap.size + 1 := by rw [hW3]; simp
        clear hW3
        have HS := hide (step_any n₀ wr.heap.size 0 (.slice ra ts[k].rs.length rcap) ts[k] s nb 0 (s.size + 1) mb 0 (s.size + 1) (tabF s (ts.take k)) W3 (unhide HT3) (by omega) ((unhide HNk).of_block (hB3.block _ hn2))
          (fun j hj => by obtain ⟨x, hx⟩ := (unhide HMk) j hj; exact ⟨x, (hB3.cell (p := ⟨mb, 0 + j, none⟩) hm2).trans hx⟩) ((unhide HFMk).of_block (hB3.block _ hm2)) hne (by omega) (by omega))
        clear hbs4
        refine ⟨trivial, ?_⟩
        refine (callsIn_wide.2 (unhide HS)).mono ?_
        rintro e W4 ⟨⟨u, rfl⟩, g1, g2, g3⟩
        have hN4 : BoolsAt W4 nb 0 (s.size + 1) (tabF s (ts.take k)) := ((unhide HNk).of_block (hB3.block _ hn2)).of_block (g2.block _ (by omega) (by omega))
        have hF4 : FreeAt W4 nb := ((unhide HFNk).of_block (hB3.block _ hn2)).of_block (g2.block _ (by omega) (by omega))
        obtain ⟨W5, hcp, hN5, hF5, hT5, hsz5⟩ := copy_row W4 nb mb (s.size + 1) (s.size + 1) (s.size + 1) _ _ hN4 g1 hF4
        have hsz4 := g2.size
        have hB5 : Below W.heap.size W W5 := ((unhide HBk).trans (hB3.mono (by omega))).trans ((g2.below hmb1 (by omega)).trans (hT5.below hnb1 (by omega)))
        have HN5 := hide hN5
        have HF5 := hide hF5
        have HB5 := hide hB5
        have HM5 : Hid (BoolsAt W5 mb 0 (s.size + 1) (stepF ts[k] s (tabF s (ts.take k)))) := hide (g1.of_block (hT5.block _ (by omega) (by omega)))
        have HFM5 : Hid (FreeAt W5 mb) := hide (g3.of_block (hT5.block _ (by omega) (by omega)))
        clear HS g1 g2 g3 hN4 hF4 hN5 hF5 hB5 hT5 HT3 HR HNk HMk HFNk HFMk HBk hB3
        gi_wp2
        go_roundw
        case rel => exact ⟨k + 1, by omega, by go_num, by rw [tabF_take s ts k hlt]; exact unhide HN5, fun j hj => ⟨_, (unhide HM5) j hj⟩, unhide HF5, unhide HFM5, unhide HB5, by omega, by omega, by omega⟩
        case measure => simp [intOf]; omega
      · have hke : k = ts.length := by omega
        subst hke
        rw [List.take_length] at hN
        have HN1 := hide hN
        have HJ1 : Hid (J [] wr) := hide ((unhide HJ) _ _ _ (unhide H0) (Turns.of_below hB))
        clear hN hM hFM hFN hB hB2 HN HM HFN HFM hc0 hf0 hbs2 hbl2 hbs3
        obtain ⟨wA, hwA⟩ : ∃ x, x = wr := ⟨_, rfl⟩
        subst hwA
        gi_wp2
        gi_loopw [53] (fun i w2 => ∃ (k : Nat), k ≤ s.size + 1 ∧ i = .int .i64 k ∧ BoolsAt w2 nb 0 (s.size + 1) (tabF s ts) ∧ J ((List.range k).filter (tabF s ts)) w2 ∧ W.heap.size + 4 ≤ w2.heap.size) (fun i _ => s.size + 1 - (intOf i).toNat)
        case atStart => exact ⟨0, Nat.zero_le _, rfl, unhide HN1, unhide HJ1, hsz⟩
        case round =>
          obtain ⟨k, hk', rfl, hN, hj, hsz6⟩ := hrel
          by_cases hlt2 : k < s.size + 1
          · have hck := hN k hlt2
            rw [Nat.zero_add] at hck
            have HN2 := hide hN
            have HJ2 := hide hj
            clear hN hj
            rcases Bool.eq_false_or_eq_true (tabF s ts k) with ht | ht
            · rw [ht] at hck
              have hlen : ((List.range k).filter (tabF s ts)).length < s.size + 1 := by
                have := List.length_filter_le (tabF s ts) (List.range k)
                rw [List.length_range] at this
                omega
              obtain ⟨fn, tmps, assign, body, hy, hR⟩ := (unhide HY) _ k wr (unhide HJ2) hsz6 hlen
              gi_wp2
              refine hR.mono ?_
              rintro e W3 (⟨rfl, hJ3, hk3⟩ | ⟨rfl, hJx3⟩)
              · have HN3 : Hid (BoolsAt W3 nb 0 (s.size + 1) (tabF s ts)) := hide ((unhide HN2).of_block (hk3.block _ (.inr (by omega))))
                have HJ3 := hide hJ3
                have hsz7 := hk3.size
                clear hJ3 hk3 HN2 HJ2
                gi_wp2
                go_roundw
                case rel => exact ⟨k + 1, by omega, by go_num, unhide HN3, by rw [filter_hit ht]; exact unhide HJ3, by omega⟩
                case measure => simp [intOf]; omega
              · gi_wp2
                refine bodyPost_ret (results_none rfl _ _ _) rfl ?_
                exact ⟨⟨_, rfl⟩, .inr ⟨k, by omega, ht, by rw [filter_hit ht]; exact hJx3⟩⟩
            · rw [ht] at hck
              gi_wp2
              refine ⟨fun _ h => (by cases h), ?_⟩
              gi_wp2
              go_roundw
              case rel => exact ⟨k + 1, by omega, by go_num, unhide HN2, by rw [filter_miss ht]; exact unhide HJ2, by omega⟩
              case measure => simp [intOf]; omega
          · have hke : k = s.size + 1 := by omega
            subst hke
            have HJ2 := hide hj
            clear hN hj
            gi_wp2
            go_end0
            exact ⟨⟨_, rfl⟩, .inl (unhide HJ2)⟩

end Go.Proofs.Ytegaonlpbcpobaa

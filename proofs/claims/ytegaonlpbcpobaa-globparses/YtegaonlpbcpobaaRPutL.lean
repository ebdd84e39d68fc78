/-
  The contract of the law's 'plain', of more tokens and ranges.
-/
import Derived.Test.YtegaonlpbcpobaaRPutW
import Derived.Test.YtegaonlpbcpobaaJoins
namespace Go.Proofs.Ytegaonlpbcpobaa
open Go.RowKit

set_option maxRecDepth 100000 in
set_option maxHeartbeats 60000000 in
theorem rputl_any (n₀ : Nat) (v : Value) (ts : List Tok) (w : World) (hrow : TokRow n₀ w v ts) (hn₀ : n₀ ≤ w.heap.size) (hf : ts.length ≤ 100000 ∧ ∀ t ∈ ts, t.rs.length ≤ 100000) :
    Calls Try.prog 10 #[v] w fun e w' => ∃ v', e = .returned v' ∧ TR w' v' ts ∧ Below w.heap.size w w' := by
  obtain ⟨i2, h2i, h2z, h2s, h2b⟩ := info_parts info42
  obtain ⟨i4, h4i, h4z, h4s, h4b⟩ := info_parts info44
  have HF := hide hf
  have HROW := hide hrow
  obtain ⟨a, cap, rfl, hmax⟩ := hrow.shape
  clear hrow hf
  go_enter Try.func10, Try.ntmps10
  go_wp2
  go_loopw [3, 4] (fun ov i wr => ∃ (xs : List XT), xs.length ≤ ts.length ∧ i = .int .i64 (xs.length : Int) ∧ xs.map (·.2) = ts.take xs.length ∧ PJ w ov xs wr) (fun _ i _ => ts.length - (intOf i).toNat)
  case atStart => exact ⟨[], Nat.zero_le _, rfl, rfl, World.ownsRow_nil _ _ _ _, fun x hx => (by cases hx), Below.refl _ _⟩
  case round =>
    obtain ⟨xs, hlen, rfl, hxs, hpj⟩ := hrel
    have HPJ := hide hpj
    have HXS := hide hxs
    obtain ⟨K, hK⟩ : ∃ K, K = xs.length := ⟨_, rfl⟩
    rw [← hK] at hlen ⊢
    have HK := hide hK
    clear hxs hK
    by_cases hlt : K < ts.length
    · obtain ⟨b, o, ra, rc, rfl, hb, ht, hm⟩ := (unhide HROW).tok hlt
      obtain ⟨t, hteq⟩ : ∃ t, t = ts[K] := ⟨_, rfl⟩
      rw [← hteq] at ht hm
      have HTE := hide hteq
      have hbw : b < w.heap.size := ht.toTokCells.lt
      have HROWT : Hid (RowR n₀ w (.slice ra t.rs.length rc) t.rs) := hide ht.row
      obtain ⟨k0, k1, k2, k3⟩ := ht.toTokCells.of_block (hpj.bel.block _ hbw)
      have hrl : t.rs.length ≤ 100000 := (unhide HF).2 t (hteq ▸ List.getElem_mem hlt)
      have hws := hpj.bel.size
      obtain ⟨wA, hwA⟩ : ∃ x, x = wr := ⟨_, rfl⟩
      subst hwA
      have l1 : (K : Int) < (ts.length : Int) := by omega
      have l0 : (0 : Int) ≤ (K : Int) := by omega
      have nb0 := World.new_ne wA ⟨b, o + K * 4, none⟩ k0
      clear hteq ht hpj
      go_wp2_with fail
      go_region_held3 (fun w' => w'.cell? ⟨b, o + K * 4, none⟩ = some (.int .i64 t.kind) ∧ w'.cell? ⟨b, o + K * 4 + 1, none⟩ = some (.int .u8 t.c) ∧ w'.cell? ⟨b, o + K * 4 + 2, none⟩ = some (.bool t.nt)) (go_keep) (fail)
      go_wp2_with fail
      obtain ⟨tb, htb⟩ : ∃ x, x = wA.heap.size := ⟨_, rfl⟩
      rw [← htb]
      obtain ⟨W1, hW1⟩ : ∃ X, X = (wA.alloc (.cells #[.int .i64 t.kind, .int .u8 t.c, .bool t.nt, .slice none 0 0] 42)).drew := ⟨_, rfl⟩
      rw [← hW1]
      have hnew : W1.heap[tb]? = some (.cells #[.int .i64 t.kind, .int .u8 t.c, .bool t.nt, .slice none 0 0] 42) := by rw [hW1, htb]; exact heap_new wA _
      have HB1 : Hid (Below wA.heap.size wA W1) := hide (by rw [hW1]; exact ((Below.refl _ wA).alloc (Nat.le_refl _) _).drew)
      have HT1 : Hid (TokCells W1 tb 0 (.slice none 0 0) t) := hide ⟨by unfold World.cell?; simp [hnew], by unfold World.cell?; simp [hnew], by unfold World.cell?; simp [hnew], by unfold World.cell?; simp [hnew]⟩
      have HFR1 : Hid (W1.frozen? ⟨tb, 3, none⟩ = false) := hide (free_new hnew 3)
      have htb1 : tb < W1.heap.size := (Array.getElem?_eq_some_iff.1 hnew).1
      have hwt : wA.heap.size ≤ tb := by omega
      clear hnew hW1 htb nb0 k0 k1 k2
      go_loopw [6] (fun k X => ∃ (j : Nat) (ra' : Option Addr) (rc' : Nat), j ≤ t.rs.length ∧ k = .int .i64 (j : Int) ∧ TokCells X tb 0 (.slice ra' j rc') t ∧ X.frozen? ⟨tb, 3, none⟩ = false ∧ X.ownsRow (tb + 1) 44 2 (.slice ra' j rc') j (flatR (t.rs.take j)) ∧ Below wA.heap.size wA X ∧ tb < X.heap.size) (fun k _ => t.rs.length - (intOf k).toNat)
      case atStart => exact ⟨0, none, 0, Nat.zero_le _, rfl, unhide HT1, unhide HFR1, World.ownsRow_nil _ _ _ _, unhide HB1, htb1⟩
      case round =>
        obtain ⟨j, ra', rc', hj, rfl, q1, q2, q3, q4, q5⟩ := hrel
        have Q1 := hide q1
        have Q3 := hide q3
        have Q4 := hide q4
        have HBW : Hid (Below w.heap.size w wr) := hide ((unhide HPJ).bel.trans (q4.mono hws))
        have k3X : wr.cell? ⟨b, o + K * 4 + 3, none⟩ = some (.slice ra t.rs.length rc) := (q4.cell (p := ⟨b, o + K * 4 + 3, none⟩) (by simp; omega)).trans k3
        have c3 := q1.k3
        rw [Nat.zero_add] at c3
        clear q1 q3 q4 HT1 HB1 HFR1 htb1
        by_cases hjl : j < t.rs.length
        · obtain ⟨a', cap', he, _, _, hr⟩ := unhide HROWT
          cases he
          rcases hr with hr | ⟨gb, go, rfl, hg, hcell⟩
          · simp [hr] at hjl
          have c0 : wr.cell? ⟨gb, go + j * 2, none⟩ = some (.int .u8 t.rs[j].1) := ((unhide HBW).cell (p := ⟨gb, go + j * 2, none⟩) (by simp; omega)).trans (hcell j hjl).1
          have c1 : wr.cell? ⟨gb, go + j * 2 + 1, none⟩ = some (.int .u8 t.rs[j].2) := ((unhide HBW).cell (p := ⟨gb, go + j * 2 + 1, none⟩) (by simp; omega)).trans (hcell j hjl).2
          have m1 : (j : Int) < (t.rs.length : Int) := by omega
          have m0 : (0 : Int) ≤ (j : Int) := by omega
          obtain ⟨x, hx⟩ : ∃ x : Int × Int, x = t.rs[j] := ⟨_, rfl⟩
          rw [← hx] at c0 c1
          have HX := hide hx
          have hgt : ¬ gb = tb := by omega
          have hbt : ¬ b = tb := by omega
          have hgw : gb < wr.heap.size := cell_lt c0
          have hbw3 : b < wr.heap.size := cell_lt k3X
          clear hcell hx k3
          go_wp2_with fail
          have HL1 : Hid (j + 1 ≤ maxLen) := hide (by unfold maxLen; omega)
          have HL2 : Hid ((j + 1) * 2 ≤ 140737488355328) := hide (by omega)
          have bA : Hid (∀ o, Below wr.heap.size wr (wr.alloc o).drew) := hide (fun o => ((Below.refl _ wr).alloc (Nat.le_refl _) o).drew)
          refine wp_region_held_drew (S := (fun w' => w'.cell? ⟨b, o + K * 4 + 3, none⟩ = some (.slice (some ⟨gb, go, none⟩) t.rs.length rc) ∧ w'.cell? ⟨gb, go + j * 2, none⟩ = some (.int .u8 x.1) ∧ w'.cell? ⟨gb, go + j * 2 + 1, none⟩ = some (.int .u8 x.2))) (by kernel_rfl) ⟨k3X, c0, c1⟩ (fun hHeld => ?_)
          refine wpAnyH_take (i := 0) (oi := { dst := some 39, op := Op.fieldAddr 42 (Operand.tmp 5) 3, type := 0, pos := "law.go:15", after := #[], guard := none }) (v := ?_) rfl (by kernel_rfl) (by kernel_rfl) (by kernel_rfl) (fun _ _ _ h => h) (Or.inl ⟨by rfl, ?_⟩) (by assumption) ?_
          rotate_left
          · intro w hSw; (try dsimp only at hSw); go_simp; (try with_reducible rfl)
          simp only [Act.put, List.setIfInBounds_toArray, List.set_cons_zero, List.set_cons_succ]
          refine wpAnyH_take (i := 2) (oi := { dst := some 41, op := Op.move (Operand.tmp 0), type := 26, pos := "law.go:15", after := #[], guard := none }) (v := ?_) rfl (by kernel_rfl) (by kernel_rfl) (by kernel_rfl) (fun _ _ _ h => h) (Or.inl ⟨by rfl, ?_⟩) (by assumption) ?_
          rotate_left
          · intro w hSw; (try dsimp only at hSw); go_simp; (try with_reducible rfl)
          simp only [Act.put, List.setIfInBounds_toArray, List.set_cons_zero, List.set_cons_succ]
          refine wpAnyH_take (i := 3) (oi := { dst := some 42, op := Op.move (Operand.tmp 4), type := 3, pos := "law.go:15", after := #[], guard := none }) (v := ?_) rfl (by kernel_rfl) (by kernel_rfl) (by kernel_rfl) (fun _ _ _ h => h) (Or.inl ⟨by rfl, ?_⟩) (by assumption) ?_
          rotate_left
          · intro w hSw; (try dsimp only at hSw); go_simp; (try with_reducible rfl)
          simp only [Act.put, List.setIfInBounds_toArray, List.set_cons_zero, List.set_cons_succ]
          refine wpAnyH_take (i := 4) (oi := { dst := some 43, op := Op.indexAddr 26 (Operand.tmp 41) (Operand.tmp 42), type := 0, pos := "law.go:15", after := #[{ on := 2, ground := Ground.data }, { on := 3, ground := Ground.data }], guard := none }) (v := ?_) rfl (by kernel_rfl) (by kernel_rfl) (by kernel_rfl) (fun _ _ _ h => h) (Or.inl ⟨by rfl, ?_⟩) (by assumption) ?_
          rotate_left
          · intro w hSw; (try dsimp only at hSw); go_simp; (try with_reducible rfl)
          simp only [Act.put, List.setIfInBounds_toArray, List.set_cons_zero, List.set_cons_succ]
          refine wpAnyH_take (i := 5) (oi := { dst := some 44, op := Op.fieldAddr 47 (Operand.tmp 43) 3, type := 0, pos := "law.go:15", after := #[{ on := 4, ground := Ground.data }], guard := none }) (v := ?_) rfl (by kernel_rfl) (by kernel_rfl) (by kernel_rfl) (fun _ _ _ h => h) (Or.inl ⟨by rfl, ?_⟩) (by assumption) ?_
          rotate_left
          · intro w hSw; (try dsimp only at hSw); go_simp; (try with_reducible rfl)
          simp only [Act.put, List.setIfInBounds_toArray, List.set_cons_zero, List.set_cons_succ]
          refine wpAnyH_take (i := 6) (oi := { dst := some 45, op := Op.load 45 (Operand.tmp 44), type := 45, pos := "law.go:15", after := #[{ on := 5, ground := Ground.data }], guard := none }) (v := ?_) rfl (by kernel_rfl) (by kernel_rfl) (by kernel_rfl) (fun _ _ _ h => h) (Or.inl ⟨by rfl, ?_⟩) (by assumption) ?_
          rotate_left
          · intro w hSw; (try dsimp only at hSw); go_simp; (try with_reducible rfl)
          simp only [Act.put, List.setIfInBounds_toArray, List.set_cons_zero, List.set_cons_succ]
          refine wpAnyH_take (i := 7) (oi := { dst := some 46, op := Op.move (Operand.tmp 6), type := 3, pos := "law.go:15", after := #[], guard := none }) (v := ?_) rfl (by kernel_rfl) (by kernel_rfl) (by kernel_rfl) (fun _ _ _ h => h) (Or.inl ⟨by rfl, ?_⟩) (by assumption) ?_
          rotate_left
          · intro w hSw; (try dsimp only at hSw); go_simp; (try with_reducible rfl)
          simp only [Act.put, List.setIfInBounds_toArray, List.set_cons_zero, List.set_cons_succ]
          refine wpAnyH_take (i := 8) (oi := { dst := some 47, op := Op.indexAddr 45 (Operand.tmp 45) (Operand.tmp 46), type := 0, pos := "law.go:15", after := #[{ on := 6, ground := Ground.data }, { on := 7, ground := Ground.data }], guard := none }) (v := ?_) rfl (by kernel_rfl) (by kernel_rfl) (by kernel_rfl) (fun _ _ _ h => h) (Or.inl ⟨by rfl, ?_⟩) (by assumption) ?_
          rotate_left
          · intro w hSw; (try dsimp only at hSw); go_simp; (try with_reducible rfl)
          simp only [Act.put, List.setIfInBounds_toArray, List.set_cons_zero, List.set_cons_succ]
          refine wpAnyH_take (i := 9) (oi := { dst := some 48, op := Op.fieldAddr 48 (Operand.tmp 47) 0, type := 0, pos := "law.go:15", after := #[{ on := 8, ground := Ground.data }], guard := none }) (v := ?_) rfl (by kernel_rfl) (by kernel_rfl) (by kernel_rfl) (fun _ _ _ h => h) (Or.inl ⟨by rfl, ?_⟩) (by assumption) ?_
          rotate_left
          · intro w hSw; (try dsimp only at hSw); go_simp; (try with_reducible rfl)
          simp only [Act.put, List.setIfInBounds_toArray, List.set_cons_zero, List.set_cons_succ]
          refine wpAnyH_take (i := 10) (oi := { dst := some 49, op := Op.load 5 (Operand.tmp 48), type := 5, pos := "law.go:15", after := #[{ on := 9, ground := Ground.data }], guard := none }) (v := ?_) rfl (by kernel_rfl) (by kernel_rfl) (by kernel_rfl) (fun _ _ _ h => h) (Or.inl ⟨by rfl, ?_⟩) (by assumption) ?_
          rotate_left
          · intro w hSw; (try dsimp only at hSw); go_simp; (try with_reducible rfl)
          simp only [Act.put, List.setIfInBounds_toArray, List.set_cons_zero, List.set_cons_succ]
          refine wpAnyH_take (i := 11) (oi := { dst := some 50, op := Op.move (Operand.tmp 0), type := 26, pos := "law.go:15", after := #[], guard := none }) (v := ?_) rfl (by kernel_rfl) (by kernel_rfl) (by kernel_rfl) (fun _ _ _ h => h) (Or.inl ⟨by rfl, ?_⟩) (by assumption) ?_
          rotate_left
          · intro w hSw; (try dsimp only at hSw); go_simp; (try with_reducible rfl)
          simp only [Act.put, List.setIfInBounds_toArray, List.set_cons_zero, List.set_cons_succ]
          refine wpAnyH_take (i := 12) (oi := { dst := some 51, op := Op.move (Operand.tmp 4), type := 3, pos := "law.go:15", after := #[], guard := none }) (v := ?_) rfl (by kernel_rfl) (by kernel_rfl) (by kernel_rfl) (fun _ _ _ h => h) (Or.inl ⟨by rfl, ?_⟩) (by assumption) ?_
          rotate_left
          · intro w hSw; (try dsimp only at hSw); go_simp; (try with_reducible rfl)
          simp only [Act.put, List.setIfInBounds_toArray, List.set_cons_zero, List.set_cons_succ]
          refine wpAnyH_take (i := 13) (oi := { dst := some 52, op := Op.indexAddr 26 (Operand.tmp 50) (Operand.tmp 51), type := 0, pos := "law.go:15", after := #[{ on := 11, ground := Ground.data }, { on := 12, ground := Ground.data }], guard := none }) (v := ?_) rfl (by kernel_rfl) (by kernel_rfl) (by kernel_rfl) (fun _ _ _ h => h) (Or.inl ⟨by rfl, ?_⟩) (by assumption) ?_
          rotate_left
          · intro w hSw; (try dsimp only at hSw); go_simp; (try with_reducible rfl)
          simp only [Act.put, List.setIfInBounds_toArray, List.set_cons_zero, List.set_cons_succ]
          refine wpAnyH_take (i := 14) (oi := { dst := some 53, op := Op.fieldAddr 47 (Operand.tmp 52) 3, type := 0, pos := "law.go:15", after := #[{ on := 13, ground := Ground.data }], guard := none }) (v := ?_) rfl (by kernel_rfl) (by kernel_rfl) (by kernel_rfl) (fun _ _ _ h => h) (Or.inl ⟨by rfl, ?_⟩) (by assumption) ?_
          rotate_left
          · intro w hSw; (try dsimp only at hSw); go_simp; (try with_reducible rfl)
          simp only [Act.put, List.setIfInBounds_toArray, List.set_cons_zero, List.set_cons_succ]
          refine wpAnyH_take (i := 15) (oi := { dst := some 54, op := Op.load 45 (Operand.tmp 53), type := 45, pos := "law.go:15", after := #[{ on := 14, ground := Ground.data }], guard := none }) (v := ?_) rfl (by kernel_rfl) (by kernel_rfl) (by kernel_rfl) (fun _ _ _ h => h) (Or.inl ⟨by rfl, ?_⟩) (by assumption) ?_
          rotate_left
          · intro w hSw; (try dsimp only at hSw); go_simp; (try with_reducible rfl)
          simp only [Act.put, List.setIfInBounds_toArray, List.set_cons_zero, List.set_cons_succ]
          refine wpAnyH_take (i := 16) (oi := { dst := some 55, op := Op.move (Operand.tmp 6), type := 3, pos := "law.go:15", after := #[], guard := none }) (v := ?_) rfl (by kernel_rfl) (by kernel_rfl) (by kernel_rfl) (fun _ _ _ h => h) (Or.inl ⟨by rfl, ?_⟩) (by assumption) ?_
          rotate_left
          · intro w hSw; (try dsimp only at hSw); go_simp; (try with_reducible rfl)
          simp only [Act.put, List.setIfInBounds_toArray, List.set_cons_zero, List.set_cons_succ]
          refine wpAnyH_take (i := 17) (oi := { dst := some 56, op := Op.indexAddr 45 (Operand.tmp 54) (Operand.tmp 55), type := 0, pos := "law.go:15", after := #[{ on := 15, ground := Ground.data }, { on := 16, ground := Ground.data }], guard := none }) (v := ?_) rfl (by kernel_rfl) (by kernel_rfl) (by kernel_rfl) (fun _ _ _ h => h) (Or.inl ⟨by rfl, ?_⟩) (by assumption) ?_
          rotate_left
          · intro w hSw; (try dsimp only at hSw); go_simp; (try with_reducible rfl)
          simp only [Act.put, List.setIfInBounds_toArray, List.set_cons_zero, List.set_cons_succ]
          refine wpAnyH_take (i := 18) (oi := { dst := some 57, op := Op.fieldAddr 48 (Operand.tmp 56) 1, type := 0, pos := "law.go:15", after := #[{ on := 17, ground := Ground.data }], guard := none }) (v := ?_) rfl (by kernel_rfl) (by kernel_rfl) (by kernel_rfl) (fun _ _ _ h => h) (Or.inl ⟨by rfl, ?_⟩) (by assumption) ?_
          rotate_left
          · intro w hSw; (try dsimp only at hSw); go_simp; (try with_reducible rfl)
          simp only [Act.put, List.setIfInBounds_toArray, List.set_cons_zero, List.set_cons_succ]
          refine wpAnyH_take (i := 19) (oi := { dst := some 58, op := Op.load 5 (Operand.tmp 57), type := 5, pos := "law.go:15", after := #[{ on := 18, ground := Ground.data }], guard := none }) (v := ?_) rfl (by kernel_rfl) (by kernel_rfl) (by kernel_rfl) (fun _ _ _ h => h) (Or.inl ⟨by rfl, ?_⟩) (by assumption) ?_
          rotate_left
          · intro w hSw; (try dsimp only at hSw); go_simp; (try with_reducible rfl)
          simp only [Act.put, List.setIfInBounds_toArray, List.set_cons_zero, List.set_cons_succ]
          refine wpAnyH_take (i := 20) (oi := { dst := some 59, op := Op.build 44 #[(0, Operand.tmp 49), (1, Operand.tmp 58)], type := 44, pos := "law.go:15", after := #[{ on := 10, ground := Ground.data }, { on := 19, ground := Ground.data }], guard := none }) (v := ?_) rfl (by kernel_rfl) (by kernel_rfl) (by kernel_rfl) (fun _ _ _ h => h) (Or.inl ⟨by rfl, ?_⟩) (by assumption) ?_
          rotate_left
          · intro w hSw; (try dsimp only at hSw); go_simp; (try with_reducible rfl)
          simp only [Act.put, List.setIfInBounds_toArray, List.set_cons_zero, List.set_cons_succ]
          refine wpAnyH_ready (rs := [1, 21]) (by kernel_rfl) (by simp) ?_
          refine AllReadyH.cons (o := { dst := some 40, op := Op.load 40 (Operand.tmp 39), type := 40, pos := "law.go:15", after := #[{ on := 0, ground := Ground.data }], guard := none }) rfl (fun KK hKK => ?_) (AllReadyH.cons (o := { dst := some 60, op := Op.buildSlice 40 1 #[(0, Operand.tmp 59)], type := 40, pos := "law.go:15", after := #[{ on := 20, ground := Ground.data }], guard := none }) rfl (fun KK hKK => ?_) AllReadyH.nil)
          · go_simp
            refine hKK.out _ _ ⟨k3X, c0, c1⟩ (fun hHeld => ?_)
            clear hKK KK
            try simp only [Act.put, List.setIfInBounds_toArray, List.set_cons_zero, List.set_cons_succ]
            refine wpAnyH_ready (rs := [21]) (by kernel_rfl) (by simp) ?_
            refine AllReadyH.cons (o := { dst := some 60, op := Op.buildSlice 40 1 #[(0, Operand.tmp 59)], type := 40, pos := "law.go:15", after := #[{ on := 20, ground := Ground.data }], guard := none }) rfl (fun KK hKK => ?_) AllReadyH.nil
            go_simp
            refine hKK.out _ _ ⟨((unhide bA _).cell (p := ⟨b, o + K * 4 + 3, none⟩) hbw3).trans k3X, ((unhide bA _).cell (p := ⟨gb, go + j * 2, none⟩) hgw).trans c0, ((unhide bA _).cell (p := ⟨gb, go + j * 2 + 1, none⟩) hgw).trans c1⟩ (fun hHeld => ?_)
            clear hKK KK
            try simp only [Act.put, List.setIfInBounds_toArray, List.set_cons_zero, List.set_cons_succ]
            refine wpAnyH_ready (rs := [22]) (by kernel_rfl) (by simp) ?_
            refine AllReadyH.cons (o := { dst := some 61, op := Op.call { callee := Callee.builtin Builtin.append, args := #[Operand.tmp 40, Operand.tmp 60], argTypes := #[40, 40] }, type := 40, pos := "law.go:15", after := #[{ on := 1, ground := Ground.data }, { on := 21, ground := Ground.data }], guard := none }) rfl (fun KK hKK => ?_) AllReadyH.nil
            refine step_append_lies _ (by rfl) _ _ _ (by rfl) (tb + 1) 44 i4 _ 2 2 Try.underlying40 h4i h4z h4s h4b rfl (by omega) (.slice ra' j rc') j (flatR (t.rs.take j)) (by simp [Act.eval]) (ownsRow_below (unhide Q3) (unhide bA _)) ⟨wr.heap.size, 0, none⟩ 1 1 [.int .u8 x.1, .int .u8 x.2] (by simp [Act.eval]) rfl two_cells two_one (by omega) (unhide HL1) (unhide HL2) (le_alloc q5) (wr.heap.size + 1) (by simp) ?_
            intro gg cg w1 hown1 hgrow hat hlt1
            have HAT := hide hat
            have HOWN1 := hide hown1
            have HGROW := hide hgrow
            have ag : some tb ≠ (Value.slice ra' j rc').ownBlock := fun e => by have := (ownsRow_lt (unhide Q3) e.symm).1; omega
            have ac : some gb ≠ (Value.slice ra' j rc').ownBlock := fun e => by have := (ownsRow_lt (unhide Q3) e.symm).1; omega
            have ab : some b ≠ (Value.slice ra' j rc').ownBlock := fun e => by have := (ownsRow_lt (unhide Q3) e.symm).1; omega
            have d3 : w1.cell? ⟨tb, 3, none⟩ = some (.slice ra' j rc') := ((unhide HGROW).cell_far ⟨tb, 3, none⟩ (Nat.lt_of_lt_of_le q5 (unhide bA _).size) ag).trans (((unhide bA _).cell (p := ⟨tb, 3, none⟩) q5).trans c3)
            have f3 : w1.frozen? ⟨tb, 3, none⟩ = false := ((unhide HGROW).frozen_far ⟨tb, 3, none⟩ (Nat.lt_of_lt_of_le q5 (unhide bA _).size) ag).trans (((unhide bA _).frozen (p := ⟨tb, 3, none⟩) q5).trans q2)
            have e0 : w1.cell? ⟨b, o + K * 4 + 3, none⟩ = some (.slice (some ⟨gb, go, none⟩) t.rs.length rc) := ((unhide HGROW).cell_far ⟨b, o + K * 4 + 3, none⟩ (Nat.lt_of_lt_of_le hbw3 (unhide bA _).size) ab).trans (((unhide bA _).cell (p := ⟨b, o + K * 4 + 3, none⟩) hbw3).trans k3X)
            have e1 : w1.cell? ⟨gb, go + j * 2, none⟩ = some (.int .u8 x.1) := ((unhide HGROW).cell_far ⟨gb, go + j * 2, none⟩ (Nat.lt_of_lt_of_le hgw (unhide bA _).size) ac).trans (((unhide bA _).cell (p := ⟨gb, go + j * 2, none⟩) hgw).trans c0)
            have e2 : w1.cell? ⟨gb, go + j * 2 + 1, none⟩ = some (.int .u8 x.2) := ((unhide HGROW).cell_far ⟨gb, go + j * 2 + 1, none⟩ (Nat.lt_of_lt_of_le hgw (unhide bA _).size) ac).trans (((unhide bA _).cell (p := ⟨gb, go + j * 2 + 1, none⟩) hgw).trans c1)
            clear hat hown1 hgrow
            refine hKK.out _ _ ⟨e0, e1, e2⟩ (fun hHeld => ?_)
            clear hKK KK
            try simp only [Act.put, List.setIfInBounds_toArray, List.set_cons_zero, List.set_cons_succ]
            refine wpAnyH_take (i := 23) (oi := { dst := some 62, op := Op.fieldAddr 42 (Operand.tmp 5) 3, type := 0, pos := "law.go:15", after := #[{ on := 0, ground := Ground.phase }, { on := 1, ground := Ground.phase }, { on := 2, ground := Ground.phase }, { on := 3, ground := Ground.phase }, { on := 4, ground := Ground.phase }, { on := 5, ground := Ground.phase }, { on := 6, ground := Ground.phase }, { on := 7, ground := Ground.phase }, { on := 8, ground := Ground.phase }, { on := 9, ground := Ground.phase }, { on := 10, ground := Ground.phase }, { on := 11, ground := Ground.phase }, { on := 12, ground := Ground.phase }, { on := 13, ground := Ground.phase }, { on := 14, ground := Ground.phase }, { on := 15, ground := Ground.phase }, { on := 16, ground := Ground.phase }, { on := 17, ground := Ground.phase }, { on := 18, ground := Ground.phase }, { on := 19, ground := Ground.phase }, { on := 20, ground := Ground.phase }, { on := 21, ground := Ground.phase }, { on := 22, ground := Ground.phase }], guard := none }) (v := ?_) rfl (by kernel_rfl) (by kernel_rfl) (by kernel_rfl) (fun _ _ _ h => h) (Or.inl ⟨by rfl, ?_⟩) (by assumption) ?_
            rotate_left
            · intro w hSw; (try dsimp only at hSw); go_simp; (try with_reducible rfl)
            simp only [Act.put, List.setIfInBounds_toArray, List.set_cons_zero, List.set_cons_succ]
            refine wpAnyH_ready (rs := [24]) (by kernel_rfl) (by simp) ?_
            refine AllReadyH.cons (o := { dst := none, op := Op.store 40 (Operand.tmp 62) (Operand.tmp 61), type := 0, pos := "law.go:15", after := #[{ on := 23, ground := Ground.data }, { on := 22, ground := Ground.data }, { on := 22, ground := Ground.chain }, { on := 0, ground := Ground.phase }, { on := 1, ground := Ground.phase }, { on := 2, ground := Ground.phase }, { on := 3, ground := Ground.phase }, { on := 4, ground := Ground.phase }, { on := 5, ground := Ground.phase }, { on := 6, ground := Ground.phase }, { on := 7, ground := Ground.phase }, { on := 8, ground := Ground.phase }, { on := 9, ground := Ground.phase }, { on := 10, ground := Ground.phase }, { on := 11, ground := Ground.phase }, { on := 12, ground := Ground.phase }, { on := 13, ground := Ground.phase }, { on := 14, ground := Ground.phase }, { on := 15, ground := Ground.phase }, { on := 16, ground := Ground.phase }, { on := 17, ground := Ground.phase }, { on := 18, ground := Ground.phase }, { on := 19, ground := Ground.phase }, { on := 20, ground := Ground.phase }, { on := 21, ground := Ground.phase }, { on := 22, ground := Ground.phase }], guard := none }) rfl (fun KK hKK => ?_) AllReadyH.nil
            go_simp
            refine hKK.out _ _ ⟨(World.cell?_setCell_other _ _ _ _ (addr_ne (.inl (Ne.symm hbt)))).trans e0, (World.cell?_setCell_other _ _ _ _ (addr_ne (.inl (Ne.symm hgt)))).trans e1, (World.cell?_setCell_other _ _ _ _ (addr_ne (.inl (Ne.symm hgt)))).trans e2⟩ (fun hHeld => ?_)
            clear hKK KK hHeld
            refine wpAnyH_done (by kernel_rfl) ?_ _
            have hd := cell_lt d3
            have HD := hide d3
            have HTK : Hid (TokCells w1 tb 0 (.slice ra' j rc') t) := hide ((unhide Q1).of_block ((((unhide HGROW).block tb (Nat.lt_of_lt_of_le q5 (unhide bA _).size) ag)).trans ((unhide bA _).block tb q5)))
            have HBB : Hid (Below wA.heap.size wA w1) := hide (((unhide Q4).trans ((unhide bA _).mono (unhide Q4).size)).grown (unhide HGROW) (Nat.le_trans (unhide Q4).size (unhide bA _).size) (fun k hk => by have := (ownsRow_lt (unhide Q3) hk).1; omega))
            clear c3 d3 e0 e1 e2 k3X c0 c1
            go_wp2
            go_roundw
            case rel =>
              refine ⟨j + 1, some ⟨gg, 0, none⟩, cg, by omega, by go_num, ⟨?_, ?_, ?_, ?_⟩, ?_, ?_, (unhide HBB).setCell (p := ⟨tb, 3, none⟩) hwt _, by simpa using hd⟩
              · exact (World.cell?_setCell_other _ _ _ _ (addr_ne (.inr (by omega)))).trans (unhide HTK).k0
              · exact (World.cell?_setCell_other _ _ _ _ (addr_ne (.inr (by omega)))).trans (unhide HTK).k1
              · exact (World.cell?_setCell_other _ _ _ _ (addr_ne (.inr (by omega)))).trans (unhide HTK).k2
              · exact World.cell?_setCell_same _ _ _ (unhide HD)
              · rw [World.frozen?_setCell]; exact f3
              · refine ownsRow_turns (B := tb) (m := 1) ?_ ((Turns.refl tb 1 w1).setCell (p := ⟨tb, 3, none⟩) (by simp) (by simp) _) (Nat.le_refl _)
                rw [show t.rs.take (j + 1) = t.rs.take j ++ [x] by rw [unhide HX, List.take_append_getElem hjl], flatR_snoc]
                exact unhide HOWN1
            case measure => simp [intOf]; omega
          · go_simp
            refine hKK.out _ _ ⟨((unhide bA _).cell (p := ⟨b, o + K * 4 + 3, none⟩) hbw3).trans k3X, ((unhide bA _).cell (p := ⟨gb, go + j * 2, none⟩) hgw).trans c0, ((unhide bA _).cell (p := ⟨gb, go + j * 2 + 1, none⟩) hgw).trans c1⟩ (fun hHeld => ?_)
            clear hKK KK
            try simp only [Act.put, List.setIfInBounds_toArray, List.set_cons_zero, List.set_cons_succ]
            have c3A := fun o => ((unhide bA o).cell (p := ⟨tb, 3, none⟩) q5).trans c3
            refine wpAnyH_ready (rs := [1]) (by kernel_rfl) (by simp) ?_
            refine AllReadyH.cons (o := { dst := some 40, op := Op.load 40 (Operand.tmp 39), type := 40, pos := "law.go:15", after := #[{ on := 0, ground := Ground.data }], guard := none }) rfl (fun KK hKK => ?_) AllReadyH.nil
            go_simp
            refine hKK.out _ _ ⟨((unhide bA _).cell (p := ⟨b, o + K * 4 + 3, none⟩) hbw3).trans k3X, ((unhide bA _).cell (p := ⟨gb, go + j * 2, none⟩) hgw).trans c0, ((unhide bA _).cell (p := ⟨gb, go + j * 2 + 1, none⟩) hgw).trans c1⟩ (fun hHeld => ?_)
            clear hKK KK
            try simp only [Act.put, List.setIfInBounds_toArray, List.set_cons_zero, List.set_cons_succ]
            refine wpAnyH_ready (rs := [22]) (by kernel_rfl) (by simp) ?_
            refine AllReadyH.cons (o := { dst := some 61, op := Op.call { callee := Callee.builtin Builtin.append, args := #[Operand.tmp 40, Operand.tmp 60], argTypes := #[40, 40] }, type := 40, pos := "law.go:15", after := #[{ on := 1, ground := Ground.data }, { on := 21, ground := Ground.data }], guard := none }) rfl (fun KK hKK => ?_) AllReadyH.nil
            refine step_append_lies _ (by rfl) _ _ _ (by rfl) (tb + 1) 44 i4 _ 2 2 Try.underlying40 h4i h4z h4s h4b rfl (by omega) (.slice ra' j rc') j (flatR (t.rs.take j)) (by simp [Act.eval]) (ownsRow_below (unhide Q3) (unhide bA _)) ⟨wr.heap.size, 0, none⟩ 1 1 [.int .u8 x.1, .int .u8 x.2] (by simp [Act.eval]) rfl two_cells two_one (by omega) (unhide HL1) (unhide HL2) (le_alloc q5) (wr.heap.size + 1) (by simp) ?_
            intro gg cg w1 hown1 hgrow hat hlt1
            have HAT := hide hat
            have HOWN1 := hide hown1
            have HGROW := hide hgrow
            have ag : some tb ≠ (Value.slice ra' j rc').ownBlock := fun e => by have := (ownsRow_lt (unhide Q3) e.symm).1; omega
            have ac : some gb ≠ (Value.slice ra' j rc').ownBlock := fun e => by have := (ownsRow_lt (unhide Q3) e.symm).1; omega
            have ab : some b ≠ (Value.slice ra' j rc').ownBlock := fun e => by have := (ownsRow_lt (unhide Q3) e.symm).1; omega
            have d3 : w1.cell? ⟨tb, 3, none⟩ = some (.slice ra' j rc') := ((unhide HGROW).cell_far ⟨tb, 3, none⟩ (Nat.lt_of_lt_of_le q5 (unhide bA _).size) ag).trans (((unhide bA _).cell (p := ⟨tb, 3, none⟩) q5).trans c3)
            have f3 : w1.frozen? ⟨tb, 3, none⟩ = false := ((unhide HGROW).frozen_far ⟨tb, 3, none⟩ (Nat.lt_of_lt_of_le q5 (unhide bA _).size) ag).trans (((unhide bA _).frozen (p := ⟨tb, 3, none⟩) q5).trans q2)
            have e0 : w1.cell? ⟨b, o + K * 4 + 3, none⟩ = some (.slice (some ⟨gb, go, none⟩) t.rs.length rc) := ((unhide HGROW).cell_far ⟨b, o + K * 4 + 3, none⟩ (Nat.lt_of_lt_of_le hbw3 (unhide bA _).size) ab).trans (((unhide bA _).cell (p := ⟨b, o + K * 4 + 3, none⟩) hbw3).trans k3X)
            have e1 : w1.cell? ⟨gb, go + j * 2, none⟩ = some (.int .u8 x.1) := ((unhide HGROW).cell_far ⟨gb, go + j * 2, none⟩ (Nat.lt_of_lt_of_le hgw (unhide bA _).size) ac).trans (((unhide bA _).cell (p := ⟨gb, go + j * 2, none⟩) hgw).trans c0)
            have e2 : w1.cell? ⟨gb, go + j * 2 + 1, none⟩ = some (.int .u8 x.2) := ((unhide HGROW).cell_far ⟨gb, go + j * 2 + 1, none⟩ (Nat.lt_of_lt_of_le hgw (unhide bA _).size) ac).trans (((unhide bA _).cell (p := ⟨gb, go + j * 2 + 1, none⟩) hgw).trans c1)
            clear hat hown1 hgrow
            refine hKK.out _ _ ⟨e0, e1, e2⟩ (fun hHeld => ?_)
            clear hKK KK
            try simp only [Act.put, List.setIfInBounds_toArray, List.set_cons_zero, List.set_cons_succ]
            refine wpAnyH_take (i := 23) (oi := { dst := some 62, op := Op.fieldAddr 42 (Operand.tmp 5) 3, type := 0, pos := "law.go:15", after := #[{ on := 0, ground := Ground.phase }, { on := 1, ground := Ground.phase }, { on := 2, ground := Ground.phase }, { on := 3, ground := Ground.phase }, { on := 4, ground := Ground.phase }, { on := 5, ground := Ground.phase }, { on := 6, ground := Ground.phase }, { on := 7, ground := Ground.phase }, { on := 8, ground := Ground.phase }, { on := 9, ground := Ground.phase }, { on := 10, ground := Ground.phase }, { on := 11, ground := Ground.phase }, { on := 12, ground := Ground.phase }, { on := 13, ground := Ground.phase }, { on := 14, ground := Ground.phase }, { on := 15, ground := Ground.phase }, { on := 16, ground := Ground.phase }, { on := 17, ground := Ground.phase }, { on := 18, ground := Ground.phase }, { on := 19, ground := Ground.phase }, { on := 20, ground := Ground.phase }, { on := 21, ground := Ground.phase }, { on := 22, ground := Ground.phase }], guard := none }) (v := ?_) rfl (by kernel_rfl) (by kernel_rfl) (by kernel_rfl) (fun _ _ _ h => h) (Or.inl ⟨by rfl, ?_⟩) (by assumption) ?_
            rotate_left
            · intro w hSw; (try dsimp only at hSw); go_simp; (try with_reducible rfl)
            simp only [Act.put, List.setIfInBounds_toArray, List.set_cons_zero, List.set_cons_succ]
            refine wpAnyH_ready (rs := [24]) (by kernel_rfl) (by simp) ?_
            refine AllReadyH.cons (o := { dst := none, op := Op.store 40 (Operand.tmp 62) (Operand.tmp 61), type := 0, pos := "law.go:15", after := #[{ on := 23, ground := Ground.data }, { on := 22, ground := Ground.data }, { on := 22, ground := Ground.chain }, { on := 0, ground := Ground.phase }, { on := 1, ground := Ground.phase }, { on := 2, ground := Ground.phase }, { on := 3, ground := Ground.phase }, { on := 4, ground := Ground.phase }, { on := 5, ground := Ground.phase }, { on := 6, ground := Ground.phase }, { on := 7, ground := Ground.phase }, { on := 8, ground := Ground.phase }, { on := 9, ground := Ground.phase }, { on := 10, ground := Ground.phase }, { on := 11, ground := Ground.phase }, { on := 12, ground := Ground.phase }, { on := 13, ground := Ground.phase }, { on := 14, ground := Ground.phase }, { on := 15, ground := Ground.phase }, { on := 16, ground := Ground.phase }, { on := 17, ground := Ground.phase }, { on := 18, ground := Ground.phase }, { on := 19, ground := Ground.phase }, { on := 20, ground := Ground.phase }, { on := 21, ground := Ground.phase }, { on := 22, ground := Ground.phase }], guard := none }) rfl (fun KK hKK => ?_) AllReadyH.nil
            go_simp
            refine hKK.out _ _ ⟨(World.cell?_setCell_other _ _ _ _ (addr_ne (.inl (Ne.symm hbt)))).trans e0, (World.cell?_setCell_other _ _ _ _ (addr_ne (.inl (Ne.symm hgt)))).trans e1, (World.cell?_setCell_other _ _ _ _ (addr_ne (.inl (Ne.symm hgt)))).trans e2⟩ (fun hHeld => ?_)
            clear hKK KK hHeld
            refine wpAnyH_done (by kernel_rfl) ?_ _
            have hd := cell_lt d3
            have HD := hide d3
            have HTK : Hid (TokCells w1 tb 0 (.slice ra' j rc') t) := hide ((unhide Q1).of_block ((((unhide HGROW).block tb (Nat.lt_of_lt_of_le q5 (unhide bA _).size) ag)).trans ((unhide bA _).block tb q5)))
            have HBB : Hid (Below wA.heap.size wA w1) := hide (((unhide Q4).trans ((unhide bA _).mono (unhide Q4).size)).grown (unhide HGROW) (Nat.le_trans (unhide Q4).size (unhide bA _).size) (fun k hk => by have := (ownsRow_lt (unhide Q3) hk).1; omega))
            clear c3 d3 e0 e1 e2 k3X c0 c1
            go_wp2
            go_roundw
            case rel =>
              refine ⟨j + 1, some ⟨gg, 0, none⟩, cg, by omega, by go_num, ⟨?_, ?_, ?_, ?_⟩, ?_, ?_, (unhide HBB).setCell (p := ⟨tb, 3, none⟩) hwt _, by simpa using hd⟩
              · exact (World.cell?_setCell_other _ _ _ _ (addr_ne (.inr (by omega)))).trans (unhide HTK).k0
              · exact (World.cell?_setCell_other _ _ _ _ (addr_ne (.inr (by omega)))).trans (unhide HTK).k1
              · exact (World.cell?_setCell_other _ _ _ _ (addr_ne (.inr (by omega)))).trans (unhide HTK).k2
              · exact World.cell?_setCell_same _ _ _ (unhide HD)
              · rw [World.frozen?_setCell]; exact f3
              · refine ownsRow_turns (B := tb) (m := 1) ?_ ((Turns.refl tb 1 w1).setCell (p := ⟨tb, 3, none⟩) (by simp) (by simp) _) (Nat.le_refl _)
                rw [show t.rs.take (j + 1) = t.rs.take j ++ [x] by rw [unhide HX, List.take_append_getElem hjl], flatR_snoc]
                exact unhide HOWN1
            case measure => simp [intOf]; omega
        · have hje : j = t.rs.length := by omega
          subst hje
          obtain ⟨m0, m1, m2, m3⟩ := unhide Q1
          rw [Nat.zero_add] at m1 m2 m3
          have bA : Hid (∀ o, Below wr.heap.size wr (wr.alloc o)) := hide (fun o => (Below.refl _ wr).alloc (Nat.le_refl _) o)
          have HOA : Hid ((wr.alloc (.cells #[.int .i64 t.kind, .int .u8 t.c, .bool t.nt, .slice ra' t.rs.length rc'] 42)).ownsRow w.heap.size 42 4 u3 xs.length (flatV (xs.map valX))) := hide (ownsRow_below (ownsRow_below (unhide HPJ).own (unhide Q4)) (unhide bA _))
          have hk60 := (unhide HF).1
          have HL1 : Hid (xs.length + 1 ≤ maxLen) := hide (by have := unhide HK; unfold maxLen; omega)
          have HL2 : Hid ((xs.length + 1) * 40 ≤ 140737488355328) := hide (by have := unhide HK; omega)
          have HL3 : Hid (w.heap.size ≤ (wr.alloc (.cells #[.int .i64 t.kind, .int .u8 t.c, .bool t.nt, .slice ra' t.rs.length rc'] 42)).heap.size) := hide (Nat.le_trans (unhide HBW).size (unhide bA _).size)
          clear c3 k3
          go_wp2_with (at_builtin; refine wpList_append_own _ rfl _ _ 24 rfl w.heap.size 42 i2 _ 4 40 Try.underlying24 h2i h2z h2s h2b rfl (by decide) _ _ _ rfl (unhide HOA) ⟨wr.heap.size, 0, none⟩ 1 1 [.int .i64 t.kind, .int .u8 t.c, .bool t.nt, .slice ra' t.rs.length rc'] rfl rfl tok_cells four_one (unhide HL1) (unhide HL2) (unhide HL3) ?_; intro v' w1 hown' hgrow hnil; have HOWN' := hide hown'; have HGROW := hide hgrow; clear hown' hgrow hnil)
          go_wp2
          go_roundw
          case rel =>
            have hKe := unhide HK
            have HBW1 := ((unhide HBW).alloc (unhide HBW).size (.cells #[.int .i64 t.kind, .int .u8 t.c, .bool t.nt, .slice ra' t.rs.length rc'] 42)).grown (unhide HGROW) (unhide HL3) (fun k hk => (ownsRow_lt (unhide HOA) hk).1)
            refine ⟨xs ++ [((ra', t.rs.length, rc'), t)], by simp; omega, by rw [List.length_append, ← hKe]; go_num, ?_, ?_, ?_, HBW1⟩
            · rw [List.map_append, unhide HXS, List.length_append]
              have hte := unhide HTE
              simp only [List.map_cons, List.map_nil, List.length_singleton]
              rw [hte]
              subst hKe
              exact List.take_append_getElem hlt
            · rw [List.map_append, flatV_append, List.length_append]
              exact unhide HOWN'
            · intro y hy
              rcases List.mem_append.1 hy with hy | hy
              · exact own_grown (by decide) (ownsRow_below (ownsRow_below ((unhide HPJ).rows y hy) (unhide Q4)) (unhide bA _)) (unhide HOA) (unhide HGROW)
              · rw [List.mem_singleton] at hy
                subst hy
                have h3 := unhide Q3
                rw [List.take_length] at h3
                exact own_grown (by decide) (ownsRow_below (own_base h3 (by omega)) (unhide bA _)) (unhide HOA) (unhide HGROW)
          case measure => simp [intOf]; omega
    · have hke : K = ts.length := by omega
      go_wp2
      go_ret
      refine ⟨_, rfl, ?_, (unhide HPJ).bel⟩
      have h1 := pj_row (unhide HPJ)
      rw [unhide HXS, ← unhide HK, hke, List.take_length] at h1
      exact h1

end Go.Proofs.Ytegaonlpbcpobaa

/-
  The document's One and All.
-/
import Derived.Test.YtpljphbaibncjaaSRef2
namespace Go.Proofs.Ytpljphbaibncjaa
open Go.RowKit

set_option maxRecDepth 100000 in
set_option maxHeartbeats 4000000 in
theorem rall_any (v1 v2 : Value) (l : List Fd) (w : World) (h1 : FRow w v1 l) (h2 : FRow w v2 l) (hl : l.length ≤ 1000000) (hx : ∀ x ∈ l, x.length ≤ 1000000) : Calls Try.prog 15 #[v1, v2] w fun e w' => e = .returned (.bool true) ∧ Below w.heap.size w w' := by
  have H1 := hide h1
  have H2 := hide h2
  obtain ⟨ad1, cap1, rfl, hs1⟩ := h1
  obtain ⟨ad2, cap2, rfl, hs2⟩ := h2
  obtain ⟨n, hn⟩ : ∃ n, n = l.length := ⟨_, rfl⟩
  rw [← hn]
  have hnl : n ≤ 1000000 := by omega
  have HN := hide hn
  have HS1 := hide hs1
  have HS2 := hide hs2
  have HX := hide hx
  clear hs1 hs2 hn hl hx
  go_enter Try.func15, Try.ntmps15
  go_wp2
  go_loopw [5] (fun i wr => ∃ k : Nat, i = .int .i64 k ∧ k ≤ n ∧ Hid (Below w.heap.size w wr)) (fun i _ => n - (intOf i).toNat)
  case atStart => exact ⟨0, rfl, Nat.zero_le _, hide (Below.refl _ _)⟩
  case round =>
    obtain ⟨k, rfl, hk, HB⟩ := hrel
    by_cases hlt : k < n
    · obtain ⟨x, hx⟩ : ∃ x, l[k]? = some x := ⟨_, List.getElem?_eq_getElem (by have := unhide HN; omega)⟩
      obtain ⟨g1, q1, rfl, hg1, a0, a1, aq⟩ := unhide HS1 k x hx
      obtain ⟨g2, q2, rfl, hg2, b0, b1, bq⟩ := unhide HS2 k x hx
      obtain ⟨qa, qn, qc, rfl⟩ := aq.slice
      obtain ⟨ra, rn, rc, rfl⟩ := bq.slice
      have HZF : Hid (∀ W, Below w.heap.size w W → W.cell? ⟨g1, k * 2, none⟩ = some (.string (BA (ftx x))) ∧ W.cell? ⟨g1, k * 2 + 1, none⟩ = some (.slice qa qn qc) ∧ W.cell? ⟨g2, k * 2, none⟩ = some (.string (BA (ftx x))) ∧ W.cell? ⟨g2, k * 2 + 1, none⟩ = some (.slice ra rn rc)) := hide (fun W hW => ⟨(hW.cell (p := ⟨g1, _, none⟩) hg1).trans a0, (hW.cell (p := ⟨g1, _, none⟩) hg1).trans a1, (hW.cell (p := ⟨g2, _, none⟩) hg2).trans b0, (hW.cell (p := ⟨g2, _, none⟩) hg2).trans b1⟩)
      have HSM := hide (same_any x (.slice qa qn qc) (.slice ra rn rc) wr.drew ((aq.below (unhide HB)).below (below_drew _ 1)) ((bq.below (unhide HB)).below (below_drew _ 1)) (unhide HX x (List.mem_of_getElem? hx)))
      have hlt1 : (k : Int) < (n : Int) := by omega
      have hk0 : (0 : Int) ≤ (k : Int) := by omega
      clear hx hg1 hg2 a0 a1 b0 b1 aq bq
      go_wp2_with fail
      refine wp_region_held_drew (S := fun w' => w'.cell? ⟨g1, k * 2, none⟩ = some (.string (BA (ftx x))) ∧ w'.cell? ⟨g1, k * 2 + 1, none⟩ = some (.slice qa qn qc) ∧ w'.cell? ⟨g2, k * 2, none⟩ = some (.string (BA (ftx x))) ∧ w'.cell? ⟨g2, k * 2 + 1, none⟩ = some (.slice ra rn rc)) (by kernel_rfl) (by exact unhide HZF _ (unhide HB).drew) (fun hHeld => ?_)
      refine wpAnyH_take (i := 0) (oi := { dst := some 17, op := Op.move (Operand.tmp 0), type := 25, pos := "ref.go:134", after := #[], guard := none }) (v := ?_) rfl (by kernel_rfl) (by kernel_rfl) (by kernel_rfl) (fun _ _ _ h => h) (Or.inl ⟨by rfl, ?_⟩) (by assumption) ?_
      rotate_left
      · intro w hSw; obtain ⟨s0, s1, s2, s3⟩ := hSw; go_simp; (try with_reducible rfl)
      simp only [Act.put, List.setIfInBounds_toArray, List.set_cons_zero, List.set_cons_succ]
      refine wpAnyH_take (i := 1) (oi := { dst := some 18, op := Op.move (Operand.tmp 5), type := 3, pos := "ref.go:134", after := #[], guard := none }) (v := ?_) rfl (by kernel_rfl) (by kernel_rfl) (by kernel_rfl) (fun _ _ _ h => h) (Or.inl ⟨by rfl, ?_⟩) (by assumption) ?_
      rotate_left
      · intro w hSw; obtain ⟨s0, s1, s2, s3⟩ := hSw; go_simp; (try with_reducible rfl)
      simp only [Act.put, List.setIfInBounds_toArray, List.set_cons_zero, List.set_cons_succ]
      refine wpAnyH_take (i := 2) (oi := { dst := some 19, op := Op.indexAddr 25 (Operand.tmp 17) (Operand.tmp 18), type := 0, pos := "ref.go:134", after := #[{ on := 0, ground := Ground.data }, { on := 1, ground := Ground.data }], guard := none }) (v := ?_) rfl (by kernel_rfl) (by kernel_rfl) (by kernel_rfl) (fun _ _ _ h => h) (Or.inl ⟨by rfl, ?_⟩) (by assumption) ?_
      rotate_left
      · intro w hSw; obtain ⟨s0, s1, s2, s3⟩ := hSw; go_simp; (try with_reducible rfl)
      simp only [Act.put, List.setIfInBounds_toArray, List.set_cons_zero, List.set_cons_succ]
      refine wpAnyH_take (i := 3) (oi := { dst := some 20, op := Op.load 38 (Operand.tmp 19), type := 38, pos := "ref.go:134", after := #[{ on := 2, ground := Ground.data }], guard := none }) (v := ?_) rfl (by kernel_rfl) (by kernel_rfl) (by kernel_rfl) (fun _ _ _ h => h) (Or.inl ⟨by rfl, ?_⟩) (by assumption) ?_
      rotate_left
      · intro w hSw; obtain ⟨s0, s1, s2, s3⟩ := hSw; go_simp; (try with_reducible rfl)
      simp only [Act.put, List.setIfInBounds_toArray, List.set_cons_zero, List.set_cons_succ]
      refine wpAnyH_take (i := 4) (oi := { dst := some 21, op := Op.move (Operand.tmp 1), type := 25, pos := "ref.go:134", after := #[], guard := none }) (v := ?_) rfl (by kernel_rfl) (by kernel_rfl) (by kernel_rfl) (fun _ _ _ h => h) (Or.inl ⟨by rfl, ?_⟩) (by assumption) ?_
      rotate_left
      · intro w hSw; obtain ⟨s0, s1, s2, s3⟩ := hSw; go_simp; (try with_reducible rfl)
      simp only [Act.put, List.setIfInBounds_toArray, List.set_cons_zero, List.set_cons_succ]
      refine wpAnyH_take (i := 5) (oi := { dst := some 22, op := Op.move (Operand.tmp 5), type := 3, pos := "ref.go:134", after := #[], guard := none }) (v := ?_) rfl (by kernel_rfl) (by kernel_rfl) (by kernel_rfl) (fun _ _ _ h => h) (Or.inl ⟨by rfl, ?_⟩) (by assumption) ?_
      rotate_left
      · intro w hSw; obtain ⟨s0, s1, s2, s3⟩ := hSw; go_simp; (try with_reducible rfl)
      simp only [Act.put, List.setIfInBounds_toArray, List.set_cons_zero, List.set_cons_succ]
      refine wpAnyH_take (i := 6) (oi := { dst := some 23, op := Op.indexAddr 25 (Operand.tmp 21) (Operand.tmp 22), type := 0, pos := "ref.go:134", after := #[{ on := 4, ground := Ground.data }, { on := 5, ground := Ground.data }], guard := none }) (v := ?_) rfl (by kernel_rfl) (by kernel_rfl) (by kernel_rfl) (fun _ _ _ h => h) (Or.inl ⟨by rfl, ?_⟩) (by assumption) ?_
      rotate_left
      · intro w hSw; obtain ⟨s0, s1, s2, s3⟩ := hSw; go_simp; (try with_reducible rfl)
      simp only [Act.put, List.setIfInBounds_toArray, List.set_cons_zero, List.set_cons_succ]
      refine wpAnyH_take (i := 7) (oi := { dst := some 24, op := Op.load 38 (Operand.tmp 23), type := 38, pos := "ref.go:134", after := #[{ on := 6, ground := Ground.data }], guard := none }) (v := ?_) rfl (by kernel_rfl) (by kernel_rfl) (by kernel_rfl) (fun _ _ _ h => h) (Or.inl ⟨by rfl, ?_⟩) (by assumption) ?_
      rotate_left
      · intro w hSw; obtain ⟨s0, s1, s2, s3⟩ := hSw; go_simp; (try with_reducible rfl)
      simp only [Act.put, List.setIfInBounds_toArray, List.set_cons_zero, List.set_cons_succ]
      refine wpAnyH_ready (rs := [8]) (by kernel_rfl) (by simp) ?_
      refine AllReadyH.cons (o := { dst := some 25, op := Op.call { callee := Callee.value (Operand.func 16), args := #[Operand.tmp 20, Operand.tmp 24], argTypes := #[38, 38] }, type := 4, pos := "ref.go:134", after := #[{ on := 3, ground := Ground.data }, { on := 7, ground := Ground.data }], guard := none }) rfl (fun KK hKK => ?_) AllReadyH.nil
      go_simp
      refine (unhide HSM).mono ?_
      rintro e w2 ⟨rfl, b2⟩
      have HB2 := hide ((unhide HB).trans ((end_below b2).mono (unhide HB).size))
      have HZ2 := hide (unhide HZF w2 (unhide HB2))
      clear b2
      refine hKK.out _ _ (by exact unhide HZ2) (fun hHeld => ?_)
      clear hKK KK
      try simp only [Act.put, List.setIfInBounds_toArray, List.set_cons_zero, List.set_cons_succ]
      refine wpAnyH_take (i := 9) (oi := { dst := some 26, op := Op.unOp UnOp.not 4 (Operand.tmp 25), type := 4, pos := "ref.go:134", after := #[{ on := 8, ground := Ground.data }], guard := none }) (v := ?_) rfl (by kernel_rfl) (by kernel_rfl) (by kernel_rfl) (fun _ _ _ h => h) (Or.inl ⟨by rfl, ?_⟩) (by assumption) ?_
      rotate_left
      · intro w hSw; obtain ⟨s0, s1, s2, s3⟩ := hSw; go_simp; (try with_reducible rfl)
      simp only [Act.put, List.setIfInBounds_toArray, List.set_cons_zero, List.set_cons_succ]
      clear hHeld
      refine wpAnyH_done (by kernel_rfl) ?_ _
      go_wp2
      go_roundw
      case rel => exact ⟨k + 1, by go_num, by omega, HB2⟩
      case measure => simp [intOf]; omega
    · have hlt1 : ¬ (k : Int) < (n : Int) := by omega
      go_wp2
      go_ret
      exact ⟨rfl, unhide HB⟩

set_option maxRecDepth 100000 in
set_option maxHeartbeats 4000000 in
theorem rone_any (v : Value) (l : List Pc) (w : World) (M : Nat) (h : PRow w v l) (hM : ∀ p ∈ l, p.text.length ≤ M) (hl : (l.length + 1) * (M + 1) ≤ 900000) :
    Calls Try.prog 17 #[v] w fun e w' => ∃ q, e = .returned (.agg #[.string (BA (ftx (oneL l))), q]) ∧ Below w.heap.size w w' ∧ QRow w' q (fqs (oneL l)) := by
  obtain ⟨ad, cap, rfl, hp⟩ := h
  obtain ⟨N, hN⟩ : ∃ N, N = l.length := ⟨_, rfl⟩
  rw [← hN] at hl ⊢
  have hNl : N ≤ 900000 := by
    have : (N + 1) * 1 ≤ (N + 1) * (M + 1) := Nat.mul_le_mul_left _ (by omega)
    omega
  have HLL : Hid (∀ k, k ≤ N → k * (M + 1) + M + 1 ≤ 900000) := hide (fun k hk => by
    have h1 : (k + 1) * (M + 1) ≤ (N + 1) * (M + 1) := Nat.mul_le_mul_right _ (by omega)
    rw [Nat.add_mul k 1] at h1
    omega)
  have HSZ : Hid (∀ k, k ≤ N → (oneL (l.take k)).length ≤ k * (M + 1)) := hide (fun k hk => by
    have h1 := one_len M (l.take k) (fun p hp => hM p (List.mem_of_mem_take hp))
    have h2 : (l.take k).length * (M + 1) ≤ k * (M + 1) := Nat.mul_le_mul_right _ (List.length_take_le k l)
    omega)
  have HM := hide hM
  have HN := hide hN
  have HPB : Hid (∀ (i : Nat) (x : Pc), l[i]? = some x → ∃ g o, ad = some ⟨g, o, none⟩ ∧ ∀ wr, Below w.heap.size w wr → 
    wr.cell? ⟨g, o + i * 4, none⟩ = some (.string (BA x.text)) ∧ wr.cell? ⟨g, o + i * 4 + 1, none⟩ = some (.bool x.q) ∧ wr.cell? ⟨g, o + i * 4 + 2, none⟩ = some (.bool x.s) ∧ wr.cell? ⟨g, o + i * 4 + 3, none⟩ = some (.bool x.b)) := hide (fun i x hi => by
      obtain ⟨g, o, e, hg, c0, c1, c2, c3⟩ := hp i x hi
      exact ⟨g, o, e, fun wr hb => ⟨(hb.cell (p := ⟨g, _, none⟩) hg).trans c0, (hb.cell (p := ⟨g, _, none⟩) hg).trans c1, (hb.cell (p := ⟨g, _, none⟩) hg).trans c2, (hb.cell (p := ⟨g, _, none⟩) hg).trans c3⟩⟩)
  have HI0 : Hid (∃ is mk, RS ((w.alloc (.cells #[.string ⟨#[]⟩, .slice none 0 0] 38)).alloc (.cells #[.slice none 0 0, .slice none 0 0, .slice none 0 0, .bool false, .bool false] 57)) (w.heap.size + 1) (w.heap.size + 1) ⟨[], oneL (l.take 0), is, mk⟩ ∧ Below w.heap.size w ((w.alloc (.cells #[.string ⟨#[]⟩, .slice none 0 0] 38)).alloc (.cells #[.slice none 0 0, .slice none 0 0, .slice none 0 0, .bool false, .bool false] 57)) ∧ Blk ((w.alloc (.cells #[.string ⟨#[]⟩, .slice none 0 0] 38)).alloc (.cells #[.slice none 0 0, .slice none 0 0, .slice none 0 0, .bool false, .bool false] 57)) w.heap.size 38 #[.string ⟨#[]⟩, .slice none 0 0]) := hide ⟨false, false, ⟨[], _, _, _, ⟨by simpa using Blk.new (w.alloc (.cells #[.string ⟨#[]⟩, .slice none 0 0] 38)) 57 #[.slice none 0 0, .slice none 0 0, .slice none 0 0, .bool false, .bool false], World.ownsRow_nil _ _ _ _, ownB_nil _ _, ownQ_nil _ _, rfl, fun x hx => by simp at hx, Nat.le_refl _⟩⟩, ((Below.refl _ w).alloc (Nat.le_refl _) _).alloc (by simp) _, (Blk.new _ _ _).alloc _⟩
  clear hp hN hM hl
  go_enter Try.func17, Try.ntmps17
  go_wp2
  generalize (w.alloc (.cells #[.string ⟨#[]⟩, .slice none 0 0] 38)).alloc (.cells #[.slice none 0 0, .slice none 0 0, .slice none 0 0, .bool false, .bool false] 57) = W0 at HI0 ⊢
  go_loopw [4] (fun i wr => ∃ k : Nat, i = .int .i64 k ∧ k ≤ N ∧ Hid (∃ is mk, RS wr (w.heap.size + 1) (w.heap.size + 1) ⟨[], oneL (l.take k), is, mk⟩ ∧ Below w.heap.size w wr ∧ Blk wr w.heap.size 38 #[.string ⟨#[]⟩, .slice none 0 0])) (fun i _ => N - (intOf i).toNat)
  case atStart => exact ⟨0, rfl, Nat.zero_le _, HI0⟩
  case round =>
    clear HI0 W0
    obtain ⟨k, rfl, hk, HI⟩ := hrel
    obtain ⟨is, mk, hi1, hi2, hi3⟩ := unhide HI
    have HTW : Hid (Blk wr w.heap.size 38 #[.string ⟨#[]⟩, .slice none 0 0] ∧ Below w.heap.size w wr) := hide ⟨hi3, hi2⟩
    have HIR := hide hi1
    by_cases hlt : k < N
    · obtain ⟨⟨t, q, sp, br⟩, hx⟩ : ∃ x, l[k]? = some x := ⟨_, List.getElem?_eq_getElem (by have := unhide HN; omega)⟩
      obtain ⟨ts, rfl⟩ : ∃ ts : ByteArray, t = ts.data.toList := ⟨BA t, rfl⟩
      have HTM : Hid (ts.size ≤ M) := hide (by have := unhide HM _ (List.mem_of_getElem? hx); rwa [data_len] at this)
      have HR := hide (one_take hx)
      obtain ⟨g, o, rfl, hc⟩ := unhide HPB k _ hx
      obtain ⟨c0, c1, c2, c3⟩ := hc wr hi2
      simp only [BA_of] at c0 c1 c2 c3
      have HZF : Hid (∀ W, Below w.heap.size w W → W.cell? ⟨g, o + k * 4, none⟩ = some (.string ts) ∧ W.cell? ⟨g, o + k * 4 + 1, none⟩ = some (.bool q)) := hide (fun W hW => ⟨(hc W hW).1, (hc W hW).2.1⟩)
      have HS1 := hide (unhide HSZ k hk)
      have HS2 := hide (unhide HLL k hk)
      have hkz : (k : Int) < (N : Int) := by omega
      have hk0 : (0 : Int) ≤ (k : Int) := by omega
      clear hc hx hi1 hi2 hi3 HI
      cases br with
      | true =>
        have HA : Hid (Calls Try.prog 24 #[.pointer (some ⟨w.heap.size + 1, 0, none⟩), .string ⟨#[32]⟩, .bool false] wr fun e w' => e = .returned (.tuple #[]) ∧ RS w' (w.heap.size + 1) (w.heap.size + 1) (addS ⟨[], oneL (l.take k), is, mk⟩ [32] false) ∧ RTurn wr w' (w.heap.size + 1)) := hide ((unhide HIR).add [32] false (by have := unhide HS1; have := unhide HS2; simp [sizS]; omega))
        go_wp2_with fail
        refine (unhide HA).mono ?_
        rintro e w2 ⟨rfl, hR, hT⟩
        have HF : Hid (∃ is mk, RS w2 (w.heap.size + 1) (w.heap.size + 1) ⟨[], oneL (l.take (k + 1)), is, mk⟩ ∧ Below w.heap.size w w2 ∧ Blk w2 w.heap.size 38 #[.string ⟨#[]⟩, .slice none 0 0]) := hide ⟨true, false, by rw [unhide HR]; exact hR, (unhide HTW).2.trans (hT.below.mono (by omega)), (unhide HTW).1.below hT.below (by omega)⟩
        clear hR hT
        go_wp2
        go_roundw
        case rel => exact ⟨k + 1, by go_num, by omega, HF⟩
        case measure => simp [intOf]; omega
      | false =>
        have HA := hide ((show RS wr.drew (w.heap.size + 1) (w.heap.size + 1) ⟨[], oneL (l.take k), is, mk⟩ from RG.kept (unhide HIR) (below_drew wr 1)).add ts.data.toList q (by have := unhide HS1; have := unhide HS2; have := unhide HTM; rw [data_len]; simp only [sizS, List.length_nil]; omega))
        rw [BA_of] at HA
        go_wp2_with fail
        refine wp_region_held_drew (S := fun w' => w'.cell? ⟨g, o + k * 4, none⟩ = some (.string ts) ∧ w'.cell? ⟨g, o + k * 4 + 1, none⟩ = some (.bool q)) (by kernel_rfl) (by exact unhide HZF _ (unhide HTW).2.drew) (fun hHeld => ?_)
        refine wpAnyH_take (i := 0) (oi := { dst := some 20, op := Op.move (Operand.tmp 3), type := 55, pos := "ref.go:108", after := #[], guard := none }) (v := ?_) rfl (by kernel_rfl) (by kernel_rfl) (by kernel_rfl) (fun _ _ _ h => h) (Or.inl ⟨by rfl, ?_⟩) (by assumption) ?_
        rotate_left
        · intro w hSw; obtain ⟨s0, s1⟩ := hSw; go_simp; (try with_reducible rfl)
        simp only [Act.put, List.setIfInBounds_toArray, List.set_cons_zero, List.set_cons_succ]
        refine wpAnyH_take (i := 1) (oi := { dst := some 21, op := Op.move (Operand.tmp 0), type := 30, pos := "ref.go:108", after := #[], guard := none }) (v := ?_) rfl (by kernel_rfl) (by kernel_rfl) (by kernel_rfl) (fun _ _ _ h => h) (Or.inl ⟨by rfl, ?_⟩) (by assumption) ?_
        rotate_left
        · intro w hSw; obtain ⟨s0, s1⟩ := hSw; go_simp; (try with_reducible rfl)
        simp only [Act.put, List.setIfInBounds_toArray, List.set_cons_zero, List.set_cons_succ]
        refine wpAnyH_take (i := 2) (oi := { dst := some 22, op := Op.move (Operand.tmp 4), type := 3, pos := "ref.go:108", after := #[], guard := none }) (v := ?_) rfl (by kernel_rfl) (by kernel_rfl) (by kernel_rfl) (fun _ _ _ h => h) (Or.inl ⟨by rfl, ?_⟩) (by assumption) ?_
        rotate_left
        · intro w hSw; obtain ⟨s0, s1⟩ := hSw; go_simp; (try with_reducible rfl)
        simp only [Act.put, List.setIfInBounds_toArray, List.set_cons_zero, List.set_cons_succ]
        refine wpAnyH_take (i := 3) (oi := { dst := some 23, op := Op.indexAddr 30 (Operand.tmp 21) (Operand.tmp 22), type := 0, pos := "ref.go:108", after := #[{ on := 1, ground := Ground.data }, { on := 2, ground := Ground.data }], guard := none }) (v := ?_) rfl (by kernel_rfl) (by kernel_rfl) (by kernel_rfl) (fun _ _ _ h => h) (Or.inl ⟨by rfl, ?_⟩) (by assumption) ?_
        rotate_left
        · intro w hSw; obtain ⟨s0, s1⟩ := hSw; go_simp; (try with_reducible rfl)
        simp only [Act.put, List.setIfInBounds_toArray, List.set_cons_zero, List.set_cons_succ]
        refine wpAnyH_take (i := 4) (oi := { dst := some 24, op := Op.fieldAddr 58 (Operand.tmp 23) 0, type := 0, pos := "ref.go:108", after := #[{ on := 3, ground := Ground.data }], guard := none }) (v := ?_) rfl (by kernel_rfl) (by kernel_rfl) (by kernel_rfl) (fun _ _ _ h => h) (Or.inl ⟨by rfl, ?_⟩) (by assumption) ?_
        rotate_left
        · intro w hSw; obtain ⟨s0, s1⟩ := hSw; go_simp; (try with_reducible rfl)
        simp only [Act.put, List.setIfInBounds_toArray, List.set_cons_zero, List.set_cons_succ]
        refine wpAnyH_take (i := 5) (oi := { dst := some 25, op := Op.load 9 (Operand.tmp 24), type := 9, pos := "ref.go:108", after := #[{ on := 4, ground := Ground.data }], guard := none }) (v := ?_) rfl (by kernel_rfl) (by kernel_rfl) (by kernel_rfl) (fun _ _ _ h => h) (Or.inl ⟨by rfl, ?_⟩) (by assumption) ?_
        rotate_left
        · intro w hSw; obtain ⟨s0, s1⟩ := hSw; go_simp; (try with_reducible rfl)
        simp only [Act.put, List.setIfInBounds_toArray, List.set_cons_zero, List.set_cons_succ]
        refine wpAnyH_take (i := 6) (oi := { dst := some 26, op := Op.move (Operand.tmp 0), type := 30, pos := "ref.go:108", after := #[], guard := none }) (v := ?_) rfl (by kernel_rfl) (by kernel_rfl) (by kernel_rfl) (fun _ _ _ h => h) (Or.inl ⟨by rfl, ?_⟩) (by assumption) ?_
        rotate_left
        · intro w hSw; obtain ⟨s0, s1⟩ := hSw; go_simp; (try with_reducible rfl)
        simp only [Act.put, List.setIfInBounds_toArray, List.set_cons_zero, List.set_cons_succ]
        refine wpAnyH_take (i := 7) (oi := { dst := some 27, op := Op.move (Operand.tmp 4), type := 3, pos := "ref.go:108", after := #[], guard := none }) (v := ?_) rfl (by kernel_rfl) (by kernel_rfl) (by kernel_rfl) (fun _ _ _ h => h) (Or.inl ⟨by rfl, ?_⟩) (by assumption) ?_
        rotate_left
        · intro w hSw; obtain ⟨s0, s1⟩ := hSw; go_simp; (try with_reducible rfl)
        simp only [Act.put, List.setIfInBounds_toArray, List.set_cons_zero, List.set_cons_succ]
        refine wpAnyH_take (i := 8) (oi := { dst := some 28, op := Op.indexAddr 30 (Operand.tmp 26) (Operand.tmp 27), type := 0, pos := "ref.go:108", after := #[{ on := 6, ground := Ground.data }, { on := 7, ground := Ground.data }], guard := none }) (v := ?_) rfl (by kernel_rfl) (by kernel_rfl) (by kernel_rfl) (fun _ _ _ h => h) (Or.inl ⟨by rfl, ?_⟩) (by assumption) ?_
        rotate_left
        · intro w hSw; obtain ⟨s0, s1⟩ := hSw; go_simp; (try with_reducible rfl)
        simp only [Act.put, List.setIfInBounds_toArray, List.set_cons_zero, List.set_cons_succ]
        refine wpAnyH_take (i := 9) (oi := { dst := some 29, op := Op.fieldAddr 58 (Operand.tmp 28) 1, type := 0, pos := "ref.go:108", after := #[{ on := 8, ground := Ground.data }], guard := none }) (v := ?_) rfl (by kernel_rfl) (by kernel_rfl) (by kernel_rfl) (fun _ _ _ h => h) (Or.inl ⟨by rfl, ?_⟩) (by assumption) ?_
        rotate_left
        · intro w hSw; obtain ⟨s0, s1⟩ := hSw; go_simp; (try with_reducible rfl)
        simp only [Act.put, List.setIfInBounds_toArray, List.set_cons_zero, List.set_cons_succ]
        refine wpAnyH_take (i := 10) (oi := { dst := some 30, op := Op.load 4 (Operand.tmp 29), type := 4, pos := "ref.go:108", after := #[{ on := 9, ground := Ground.data }], guard := none }) (v := ?_) rfl (by kernel_rfl) (by kernel_rfl) (by kernel_rfl) (fun _ _ _ h => h) (Or.inl ⟨by rfl, ?_⟩) (by assumption) ?_
        rotate_left
        · intro w hSw; obtain ⟨s0, s1⟩ := hSw; go_simp; (try with_reducible rfl)
        simp only [Act.put, List.setIfInBounds_toArray, List.set_cons_zero, List.set_cons_succ]
        refine wpAnyH_ready (rs := [11]) (by kernel_rfl) (by simp) ?_
        refine AllReadyH.cons (o := { dst := some 31, op := Op.call { callee := Callee.value (Operand.func 24), args := #[Operand.tmp 20, Operand.tmp 25, Operand.tmp 30], argTypes := #[55, 9, 4] }, type := 0, pos := "ref.go:108", after := #[{ on := 0, ground := Ground.data }, { on := 5, ground := Ground.data }, { on := 10, ground := Ground.data }], guard := none }) rfl (fun KK hKK => ?_) AllReadyH.nil
        go_simp
        refine (unhide HA).mono ?_
        rintro e w2 ⟨rfl, hR, hT⟩
        have HR2 := hide (And.intro hR hT)
        have HZ2 : Hid (w2.cell? ⟨g, o + k * 4, none⟩ = some (.string ts) ∧ w2.cell? ⟨g, o + k * 4 + 1, none⟩ = some (.bool q)) := hide (unhide HZF w2 ((unhide HTW).2.trans (below_drew0 (hT.below.mono (by omega)))))
        have HF : Hid (∃ is mk, RS w2 (w.heap.size + 1) (w.heap.size + 1) ⟨[], oneL (l.take (k + 1)), is, mk⟩ ∧ Below w.heap.size w w2 ∧ Blk w2 w.heap.size 38 #[.string ⟨#[]⟩, .slice none 0 0]) := hide ⟨true, false, by rw [unhide HR]; exact hR, (unhide HTW).2.trans (below_drew0 (hT.below.mono (by omega))), (show Blk wr.drew _ _ _ from (unhide HTW).1).below hT.below (by omega)⟩
        clear hR hT
        refine hKK.out _ _ (by exact unhide HZ2) (fun hHeld => ?_)
        clear hKK KK
        try simp only [Act.put, List.setIfInBounds_toArray, List.set_cons_zero, List.set_cons_succ]
        clear hHeld
        refine wpAnyH_done (by kernel_rfl) ?_ _
        go_wp2
        go_roundw
        case rel => exact ⟨k + 1, by go_num, by omega, HF⟩
        case measure => simp [intOf]; omega
    · have hkz : ¬ (k : Int) < (N : Int) := by omega
      have HTA : Hid (l.take k = l) := hide (List.take_of_length_le (by have := unhide HN; omega))
      rw [unhide HTA] at HIR
      have HE := hide ((unhide HIR).end (by have h2 := unhide HSZ k hk; have := unhide HLL k hk; rw [unhide HTA] at h2; simp only [sizS, List.length_nil]; omega))
      clear hi1 hi2 hi3 HI
      go_wp2_with fail
      refine (unhide HE).mono ?_
      rintro e w2 ⟨rfl, hR, hT⟩
      obtain ⟨L, ov, nv, qv, hg⟩ := hR
      have hL : L.length = 1 := by have := congrArg List.length hg.out; rw [List.length_map] at this; rw [this]; rfl
      obtain ⟨⟨f, fq⟩, rfl⟩ : ∃ y, L = [y] := by
        match L, hL with
        | [y], _ => exact ⟨y, rfl⟩
      have hf : f = oneL l := by have := hg.out; simpa [endS] using this
      subst hf
      obtain ⟨oa, oc, rfl⟩ := own_slice hg.row
      obtain ⟨go, c0, hgo⟩ := World.ownsRow.form hg.row (by simp)
      obtain ⟨rfl, hgo2⟩ : oa = some ⟨go, 0, none⟩ ∧ go < w2.heap.size := by
        obtain ⟨e1, _, e2⟩ := hgo
        cases e1
        exact ⟨rfl, e2⟩
      have HFQ := hide ((hg.sub (oneL l, fq) (by simp)).1)
      have k0 : w2.cell? ⟨go, 0, none⟩ = some (.string (BA (ftx (oneL l)))) := by rw [World.ownsRow.cellAt hg.row 0 (by simp)]; rfl
      have k1 : w2.cell? ⟨go, 1, none⟩ = some fq := by rw [World.ownsRow.cellAt hg.row 1 (by simp)]; rfl
      have co : w2.cell? ⟨w.heap.size + 1, 0, none⟩ = some (.slice (some ⟨go, 0, none⟩) [(oneL l, fq)].length oc) := hg.blk.cell 0 rfl
      simp only [List.length_cons, List.length_nil, Nat.zero_add] at co
      have KB : Hid (Blk w2 w.heap.size 38 #[.string ⟨#[]⟩, .slice none 0 0]) := hide ((unhide HTW).1.below hT.below (by omega))
      obtain ⟨fa, fn, fc, rfl⟩ := slice_own (unhide HFQ)
      have x0 : w2.cell? ⟨w.heap.size, 0, none⟩ = some (.string ⟨#[]⟩) := (unhide KB).cell 0 rfl
      have x1 : w2.cell? ⟨w.heap.size, 1, none⟩ = some (.slice none 0 0) := (unhide KB).cell 1 rfl
      have y0 : w2.frozen? ⟨w.heap.size, 0, none⟩ = false := (unhide KB).frozen 0
      have y1 : w2.frozen? ⟨w.heap.size, 1, none⟩ = false := (unhide KB).frozen 1
      have HEND : Hid (Blk ((w2.setCell ⟨w.heap.size, 0, none⟩ (.string (BA (ftx (oneL l))))).setCell ⟨w.heap.size, 1, none⟩ (.slice fa fn fc)) w.heap.size 38 #[.string (BA (ftx (oneL l))), .slice fa fn fc]) := hide (by
        have := ((unhide KB).set 0 (.string (BA (ftx (oneL l))))).set 1 (.slice fa fn fc)
        simpa using this)
      have HG3 : Hid (GrownS w2 ((w2.setCell ⟨w.heap.size, 0, none⟩ (.string (BA (ftx (oneL l))))).setCell ⟨w.heap.size, 1, none⟩ (.slice fa fn fc)) (fun k => k = w.heap.size)) := hide ((setb_grown _ _ _ _).trans (setb_grown _ _ _ _))
      have HB3 : Hid (Below w.heap.size w w2) := hide ((unhide HTW).2.trans (hT.below.mono (by omega)))
      have HQ3 : Hid (QRow ((w2.setCell ⟨w.heap.size, 0, none⟩ (.string (BA (ftx (oneL l))))).setCell ⟨w.heap.size, 1, none⟩ (.slice fa fn fc)) (.slice fa fn fc) (fqs (oneL l))) := hide ((show OwnQ _ _ _ _ from own_grownS (unhide HFQ) (unhide HG3) (fun k hk e => by have := (World.ownsRow.lt (unhide HFQ) k hk).1; omega)).form)
      clear hg hT hgo hL
      go_wp2
      refine bodyPost_ret (results_cell_row (P := Try.prog) rfl _ _ w.heap.size 38 _ (0, 0) _ rfl (unhide HEND) Try.underlying38 rfl (by kernel_rfl)) rfl ⟨_, rfl, (unhide HB3).trans ((unhide HG3).below (unhide HB3).size (fun k e => by omega)), unhide HQ3⟩

end Go.Proofs.Ytpljphbaibncjaa

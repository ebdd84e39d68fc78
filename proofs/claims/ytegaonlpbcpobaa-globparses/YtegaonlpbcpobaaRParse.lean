/-
  The contract of the document's 'Parse'.
-/
import Derived.Test.YtegaonlpbcpobaaRPutW
import Derived.Test.YtegaonlpbcpobaaRIs
namespace Go.Proofs.Ytegaonlpbcpobaa
open Go.RowKit

theorem next_eq {s : ByteArray} {q : List Bool} {F k nxt : Nat} {xs : List XT} {x : XT} (hlt : k < s.size) (hc : cutT s q k = (x.2, nxt)) (h : xs.map (·.2) ++ parseN s q (F + 1) k = parseL s q) : (xs ++ [x]).map (·.2) ++ parseN s q F nxt = parseL s q := by
  rw [parseN_step hlt, hc] at h
  rw [← h]; simp
theorem PJ.push {w : World} {v v' : Value} {xs : List XT} {X X' : World} {o : Obj} (x : XT) (h : PJ w v xs X) (hr : X.ownsRow w.heap.size 44 2 (slX x) x.2.rs.length (flatR x.2.rs))
    (hown : X'.ownsRow w.heap.size 42 4 v' (xs.length + 1) (flatV (xs.map valX) ++ [.int .i64 x.2.kind, .int .u8 x.2.c, .bool x.2.nt, slX x])) (hg : (X.alloc o).grownBy X' v.ownBlock) : PJ w v' (xs ++ [x]) X' := by
  have bA : Below X.heap.size X (X.alloc o) := (Below.refl _ X).alloc (Nat.le_refl _) o
  have hoa := ownsRow_below h.own bA
  refine ⟨?_, ?_, ?_⟩
  · rw [List.map_append, flatV_append, List.length_append]
    exact hown
  · intro y hy
    rcases List.mem_append.1 hy with hy | hy
    · exact own_grown (by decide) (ownsRow_below (h.rows y hy) bA) hoa hg
    · rw [List.mem_singleton] at hy
      subst hy
      exact own_grown (by decide) (ownsRow_below hr bA) hoa hg
  · exact (h.bel.alloc h.bel.size o).grown hg (Nat.le_trans h.bel.size bA.size) (fun k hk => (ownsRow_lt hoa hk).1)

theorem findFrom_out {p : Nat → Bool} {n k : Nat} (h : n ≤ k) : findFrom p n (n - k) k = n := by
  rw [show n - k = 0 by omega]; rfl
theorem findFrom_in {p : Nat → Bool} {n k : Nat} (h : k < n) (hp : p k = true) : findFrom p n (n - k) k = k := by
  obtain ⟨F, hF⟩ : ∃ F, n - k = F + 1 := ⟨n - k - 1, by omega⟩
  rw [hF]; exact findFrom_hit h hp
theorem findFrom_next {p : Nat → Bool} {n k : Nat} (h : k < n) (hp : p k = false) : findFrom p n (n - k) k = findFrom p n (n - (k + 1)) (k + 1) := by
  obtain ⟨F, hF⟩ : ∃ F, n - k = F + 1 := ⟨n - k - 1, by omega⟩
  rw [hF, findFrom_step h hp]
  congr 1
  omega

set_option maxRecDepth 100000 in
set_option maxHeartbeats 60000000 in
theorem rparse_any (n : Nat) (v : Value) (s : ByteArray) (q : List Bool) (w : World) (hs : s.size ≤ 100000) (hq : QRow n w v q) (hn : n ≤ w.heap.size) :
    Calls Try.prog 12 #[.string s, v] w fun e w' => ∃ v', e = .returned v' ∧ TR w' v' (parseL s q) ∧ Below w.heap.size w w' := by
  obtain ⟨i2, h2i, h2z, h2s, h2b⟩ := info_parts info42
  obtain ⟨i4, h4i, h4z, h4s, h4b⟩ := info_parts info44
  have HQ := hide hq
  obtain ⟨a, cap, rfl, hmx⟩ := hq.shape
  clear hq
  go_enter Try.func12, Try.ntmps12
  go_wp2
  go_loopw [5, 6] (fun ov i wr => ∃ (k F : Nat) (xs : List XT), i = .int .i64 (k : Int) ∧ k ≤ s.size ∧ s.size - k ≤ F ∧ xs.length ≤ k ∧ xs.map (·.2) ++ parseN s q F k = parseL s q ∧ PJ w ov xs wr) (fun _ i _ => s.size - (intOf i).toNat)
  case atStart => exact ⟨0, s.size, [], rfl, Nat.zero_le _, by omega, Nat.le_refl _, rfl, World.ownsRow_nil _ _ _ _, fun x hx => (by cases hx), Below.refl _ _⟩
  case round =>
    obtain ⟨k, F, xs, rfl, hks, hF, hxl, heq, hpj⟩ := hrel
    obtain ⟨wA, hwA⟩ : ∃ x, x = wr := ⟨_, rfl⟩
    subst hwA
    have HPJ := hide hpj
    have HE := hide heq
    have HQr : Hid (QRow n wA (.slice a q.length cap) q) := hide ((unhide HQ).below (hpj.bel.mono hn))
    have hws := hpj.bel.size
    clear hpj heq
    by_cases hlt : k < s.size
    · cases F with
      | zero => omega
      | succ F =>
      have hadv := cutT_adv s q k hlt
      have HL1 : Hid (xs.length + 1 ≤ maxLen) := hide (by unfold maxLen; omega)
      have HL2 : Hid ((xs.length + 1) * 40 ≤ 140737488355328) := hide (by omega)
      have bA : Hid (∀ o, Below wA.heap.size wA (wA.alloc o)) := hide (fun o => (Below.refl _ wA).alloc (Nat.le_refl _) o)
      have HL3 : Hid (∀ o, w.heap.size ≤ (wA.alloc o).heap.size) := hide (fun o => Nat.le_trans hws (unhide bA o).size)
      have HOA : Hid (∀ o, (wA.alloc o).ownsRow w.heap.size 42 4 u5 xs.length (flatV (xs.map valX))) := hide (fun o => ownsRow_below (unhide HPJ).own (unhide bA o))
      have HC63 := hide (ris_any n s _ q k 63 wA (unhide HQr))
      have HC42 := hide (ris_any n s _ q k 42 wA (unhide HQr))
      have HC91 := hide (ris_any n s _ q k 91 wA (unhide HQr))
      rcases Bool.eq_false_or_eq_true (plainF s q k 63) with h63 | h63
      · have hcut : cutT s q k = (⟨2, 0, false, []⟩, k + 1) := by unfold cutT; rw [if_pos h63]
        rw [h63] at HC63
        have HCUT := hide hcut
        clear hcut h63 hadv
        go_wp2_with fail
        refine (unhide HC63).mono ?_
        rintro e x1 ⟨rfl, hx1⟩
        have hx2 := hx1.symm
        subst hx2
        clear hx1
        go_wp2_with (at_builtin; refine wpList_append_own _ rfl _ _ 24 rfl w.heap.size 42 i2 _ 4 40 Try.underlying24 h2i h2z h2s h2b rfl (by decide) _ _ _ rfl (unhide HOA _) ⟨wA.heap.size, 0, none⟩ 1 1 [.int .i64 2, .int .u8 0, .bool false, .slice none 0 0] rfl rfl tok_cells four_one (unhide HL1) (unhide HL2) (unhide HL3 _) ?_; intro v' w1 hown' hgrow hnil; have HOWN' := hide hown'; have HGROW := hide hgrow; clear hown' hgrow hnil)
        go_wp2
        go_roundw
        case rel => exact ⟨k + 1, F, xs ++ [((none, 0, 0), ⟨2, 0, false, []⟩)], by go_num, by omega, by omega, by simp; omega, next_eq hlt (unhide HCUT) (unhide HE), PJ.push ((none, 0, 0), ⟨2, 0, false, []⟩) (unhide HPJ) (World.ownsRow_nil _ _ _ _) (unhide HOWN') (unhide HGROW)⟩
        case measure => simp [intOf]; omega
      · rw [h63] at HC63
        rcases Bool.eq_false_or_eq_true (plainF s q k 42) with h42 | h42
        · have hcut : cutT s q k = (⟨3, 0, false, []⟩, k + 1) := by unfold cutT; rw [if_neg (by simp [h63]), if_pos h42]
          rw [h42] at HC42
          have HCUT := hide hcut
          clear hcut h63 h42 hadv
          go_wp2_with fail
          refine (unhide HC63).mono ?_
          rintro e x1 ⟨rfl, hx1⟩
          have hx2 := hx1.symm
          subst hx2
          clear hx1
          go_wp2_with fail
          refine (unhide HC42).mono ?_
          rintro e x1 ⟨rfl, hx1⟩
          have hx2 := hx1.symm
          subst hx2
          clear hx1
          go_wp2_with (at_builtin; refine wpList_append_own _ rfl _ _ 24 rfl w.heap.size 42 i2 _ 4 40 Try.underlying24 h2i h2z h2s h2b rfl (by decide) _ _ _ rfl (unhide HOA _) ⟨wA.heap.size, 0, none⟩ 1 1 [.int .i64 3, .int .u8 0, .bool false, .slice none 0 0] rfl rfl tok_cells four_one (unhide HL1) (unhide HL2) (unhide HL3 _) ?_; intro v' w1 hown' hgrow hnil; have HOWN' := hide hown'; have HGROW := hide hgrow; clear hown' hgrow hnil)
          go_wp2
          go_roundw
          case rel => exact ⟨k + 1, F, xs ++ [((none, 0, 0), ⟨3, 0, false, []⟩)], by go_num, by omega, by omega, by simp; omega, next_eq hlt (unhide HCUT) (unhide HE), PJ.push ((none, 0, 0), ⟨3, 0, false, []⟩) (unhide HPJ) (World.ownsRow_nil _ _ _ _) (unhide HOWN') (unhide HGROW)⟩
          case measure => simp [intOf]; omega
        · rw [h42] at HC42
          have HC33 := hide (ris_any n s _ q (k + 1) 33 wA (unhide HQr))
          obtain ⟨nt, hnt⟩ : ∃ x, x = plainF s q (k + 1) 33 := ⟨_, rfl⟩
          rw [← hnt] at HC33
          obtain ⟨A, hA⟩ : ∃ x, x = classAt s q k := ⟨_, rfl⟩
          have hA2 : A = if nt then k + 2 else k + 1 := by rw [hA, hnt]; rfl
          have hcut : cutT s q k = (if plainF s q k 91 && decide (classEnd s q A < s.size) then ((⟨4, 0, nt, rangesL s q (classEnd s q A - A) A (classEnd s q A)⟩ : Tok), classEnd s q A + 1) else (⟨1, sb s k, false, []⟩, k + 1)) := by
            unfold cutT; rw [if_neg (by simp [h63]), if_neg (by simp [h42]), ← hnt, ← hA]
          have HCUT := hide hcut
          have HA2 := hide hA2
          have hAk : k + 1 ≤ A ∧ A ≤ k + 2 := by rw [hA2]; split <;> omega
          have l1 : IntKind.i64.wrap ((k : Int) + 1) = (k : Int) + 1 := by rw [IntKind.wrap_i64]; omega
          clear hcut h63 h42 hA hnt hA2
          go_wp2_with fail
          refine (unhide HC63).mono ?_
          rintro e x1 ⟨rfl, hx1⟩
          have hx2 := hx1.symm
          subst hx2
          clear hx1
          go_wp2_with fail
          refine (unhide HC42).mono ?_
          rintro e x1 ⟨rfl, hx1⟩
          have hx2 := hx1.symm
          subst hx2
          clear hx1
          go_wp2_with fail
          rw [show ((k : Int) + 1) = ((k + 1 : Nat) : Int) by omega]
          refine (unhide HC33).mono ?_
          rintro e x1 ⟨rfl, hx1⟩
          have hx2 := hx1.symm
          subst hx2
          clear hx1
          cases nt
          · have hAe : A = k + 1 := unhide HA2
            subst hAe
            clear HA2
            go_wp2_with fail
            go_loop [9] (fun x => ∃ e : Nat, x = .int .i64 (e : Int) ∧ k + 1 + 1 ≤ e ∧ e ≤ s.size + 3 ∧ findFrom (fun j => plainF s q j 93) s.size (s.size - e) e = classEnd s q (k + 1)) (fun x => s.size - (intOf x).toNat)
            case atStart => exact ⟨k + 1 + 1, by go_num, Nat.le_refl _, by omega, rfl⟩
            case round =>
              obtain ⟨e, rfl, he1, he2, hfe⟩ := hrel
              have HFE := hide hfe
              clear hfe
              by_cases hes : e < s.size
              · have HC93 := hide (ris_any n s _ q e 93 wA (unhide HQr))
                have hel : (e : Int) < (s.size : Int) := by omega
                rcases Bool.eq_false_or_eq_true (plainF s q e 93) with hpe | hpe
                · rw [hpe] at HC93
                  have HCE : Hid (classEnd s q (k + 1) = e) := hide (by rw [← unhide HFE]; exact findFrom_in hes hpe)
                  rcases Bool.eq_false_or_eq_true (plainF s q k 91) with h91 | h91
                  · rw [h91] at HC91
                    have HCUTC : Hid (cutT s q k = (⟨4, 0, false, rangesL s q (e - (k + 1)) (k + 1) e⟩, e + 1)) := hide (by rw [unhide HCUT, unhide HCE, h91, if_pos (by simpa using hes)])
                    clear h91 hpe
                    go_wp2_with fail
                    refine (unhide HC93).mono ?_
                    rintro ee x1 ⟨rfl, hx1⟩
                    have hx2 := hx1.symm
                    subst hx2
                    clear hx1
                    go_wp2_with fail
                    refine (unhide HC91).mono ?_
                    rintro ee x1 ⟨rfl, hx1⟩
                    have hx2 := hx1.symm
                    subst hx2
                    clear hx1
                    go_wp2_with fail
                    obtain ⟨tb, htb⟩ : ∃ x, x = wA.heap.size := ⟨_, rfl⟩
                    rw [← htb]
                    obtain ⟨W1, hW1⟩ : ∃ wr, wr = wA.alloc (.cells #[.int .i64 4, .int .u8 0, .bool false, .slice none 0 0] 42) := ⟨_, rfl⟩
                    rw [← hW1]
                    have hnew : W1.heap[tb]? = some (.cells #[.int .i64 4, .int .u8 0, .bool false, .slice none 0 0] 42) := by rw [hW1, htb]; exact heap_new wA _
                    have HB1 : Hid (Below wA.heap.size wA W1) := hide (by rw [hW1]; exact (Below.refl _ wA).alloc (Nat.le_refl _) _)
                    have HT1 : Hid (TokCells W1 tb 0 (.slice none 0 0) ⟨4, 0, false, []⟩) := hide ⟨by unfold World.cell?; simp [hnew], by unfold World.cell?; simp [hnew], by unfold World.cell?; simp [hnew], by unfold World.cell?; simp [hnew]⟩
                    have HFR1 : Hid (W1.frozen? ⟨tb, 3, none⟩ = false) := hide (free_new hnew 3)
                    have htb1 : tb < W1.heap.size := (Array.getElem?_eq_some_iff.1 hnew).1
                    have hwt : wA.heap.size ≤ tb := by omega
                    clear hnew hW1 htb
                    go_loopw [11] (fun x wr => ∃ (i G : Nat) (l : List (Int × Int)) (ra' : Option Addr) (rc' : Nat), TokCells wr tb 0 (.slice ra' l.length rc') ⟨4, 0, false, []⟩ ∧ x = .int .i64 (i : Int) ∧ e - i ≤ G ∧ l.length ≤ i ∧ i ≤ e ∧ l ++ rangesL s q G i e = rangesL s q (e - (k + 1)) (k + 1) e ∧ wr.frozen? ⟨tb, 3, none⟩ = false ∧ wr.ownsRow (tb + 1) 44 2 (.slice ra' l.length rc') l.length (flatR l) ∧ Below wA.heap.size wA wr ∧ tb < wr.heap.size) (fun x _ => e - (intOf x).toNat)
                    case atStart => exact ⟨k + 1, e - (k + 1), [], none, 0, unhide HT1, by go_num, Nat.le_refl _, Nat.zero_le _, by omega, rfl, unhide HFR1, World.ownsRow_nil _ _ _ _, unhide HB1, htb1⟩
                    case round =>
                      obtain ⟨i, G, l, ra', rc', q1, rfl, hG, hll, hie, hrl, q2, q3, q4, q5⟩ := hrel
                      have Q1 := hide q1
                      have Q3 := hide q3
                      have Q4 := hide q4
                      have HR := hide hrl
                      have HBW : Hid (Below w.heap.size w wr) := hide ((unhide HPJ).bel.trans (q4.mono hws))
                      have HQX : Hid (QRow n wr (.slice a q.length cap) q) := hide ((unhide HQ).below ((unhide HBW).mono hn))
                      have c3 := q1.k3
                      rw [Nat.zero_add] at c3
                      clear q1 q3 q4 hrl HT1 HB1 HFR1 htb1
                      by_cases hlie : i < e
                      · cases G with
                        | zero => omega
                        | succ G =>
                        have his : i < s.size := by omega
                        have HM1 : Hid (l.length + 1 ≤ maxLen) := hide (by unfold maxLen; omega)
                        have HM2 : Hid ((l.length + 1) * 2 ≤ 140737488355328) := hide (by omega)
                        have m0 : (0 : Int) ≤ (i : Int) := by omega
                        have m1 : (i : Int) < (s.size : Int) := by omega
                        by_cases h22 : i + 2 < e
                        · obtain ⟨jj, hjj⟩ : ∃ jj : Nat, (i : Int) + 2 = (jj : Int) := ⟨i + 2, by omega⟩
                          have hjs : jj < s.size := by omega
                          have HJ2 : Hid (i + 2 = jj) := hide (by omega)
                          have m2 : (0 : Int) ≤ (jj : Int) := by omega
                          have m3 : (jj : Int) < (s.size : Int) := by omega
                          have m4 : IntKind.i64.wrap ((i : Int) + 2) = (jj : Int) := by rw [IntKind.wrap_i64]; omega
                          have m5 : IntKind.i64.wrap (jj : Int) = (jj : Int) := by rw [IntKind.wrap_i64]; omega
                          have hje : (jj : Int) < (e : Int) := by omega
                          have HC45 := hide (ris_any n s _ q (i + 1) 45 wr (unhide HQX))
                          rcases Bool.eq_false_or_eq_true (plainF s q (i + 1) 45) with h45 | h45
                          · rw [h45] at HC45
                            go_wp2_with fail
                            rw [show ((i : Int) + 1) = ((i + 1 : Nat) : Int) by omega]
                            refine (unhide HC45).mono ?_
                            rintro ee x1 ⟨rfl, hx1⟩
                            have hx2 := hx1.symm
                            subst hx2
                            clear hx1
                            go_wp2_with fail
                            have bX : Hid (∀ o, Below wr.heap.size wr (wr.alloc o).drew) := hide (fun o => ((Below.refl _ wr).alloc (Nat.le_refl _) o).drew)
                            refine wp_region_held_drew (S := fun _ => True) (by kernel_rfl) trivial (fun hHeld => ?_)
                            refine wpAnyH_take (i := 0) (oi := { dst := some 97, op := Op.fieldAddr 42 (Operand.tmp 10) 3, type := 0, pos := "ref.go:56", after := #[], guard := none }) (v := ?_) rfl (by kernel_rfl) (by kernel_rfl) (by kernel_rfl) (fun _ _ _ h => h) (Or.inl ⟨by rfl, ?_⟩) (by assumption) ?_
                            rotate_left
                            · intro w hSw; (try dsimp only at hSw); go_simp; (try with_reducible rfl)
                            simp only [Act.put, List.setIfInBounds_toArray, List.set_cons_zero, List.set_cons_succ]
                            refine wpAnyH_take (i := 2) (oi := { dst := some 99, op := Op.move (Operand.tmp 0), type := 9, pos := "ref.go:56", after := #[], guard := none }) (v := ?_) rfl (by kernel_rfl) (by kernel_rfl) (by kernel_rfl) (fun _ _ _ h => h) (Or.inl ⟨by rfl, ?_⟩) (by assumption) ?_
                            rotate_left
                            · intro w hSw; (try dsimp only at hSw); go_simp; (try with_reducible rfl)
                            simp only [Act.put, List.setIfInBounds_toArray, List.set_cons_zero, List.set_cons_succ]
                            refine wpAnyH_take (i := 3) (oi := { dst := some 100, op := Op.move (Operand.tmp 11), type := 3, pos := "ref.go:56", after := #[], guard := none }) (v := ?_) rfl (by kernel_rfl) (by kernel_rfl) (by kernel_rfl) (fun _ _ _ h => h) (Or.inl ⟨by rfl, ?_⟩) (by assumption) ?_
                            rotate_left
                            · intro w hSw; (try dsimp only at hSw); go_simp; (try with_reducible rfl)
                            simp only [Act.put, List.setIfInBounds_toArray, List.set_cons_zero, List.set_cons_succ]
                            refine wpAnyH_take (i := 4) (oi := { dst := some 101, op := Op.index 9 (Operand.tmp 99) (Operand.tmp 100), type := 5, pos := "ref.go:56", after := #[{ on := 2, ground := Ground.data }, { on := 3, ground := Ground.data }], guard := none }) (v := ?_) rfl (by kernel_rfl) (by kernel_rfl) (by kernel_rfl) (fun _ _ _ h => h) (Or.inl ⟨by rfl, ?_⟩) (by assumption) ?_
                            rotate_left
                            · intro w hSw; (try dsimp only at hSw); go_simp; (try with_reducible rfl)
                            simp only [Act.put, List.setIfInBounds_toArray, List.set_cons_zero, List.set_cons_succ]
                            refine wpAnyH_take (i := 5) (oi := { dst := some 102, op := Op.move (Operand.tmp 0), type := 9, pos := "ref.go:56", after := #[], guard := none }) (v := ?_) rfl (by kernel_rfl) (by kernel_rfl) (by kernel_rfl) (fun _ _ _ h => h) (Or.inl ⟨by rfl, ?_⟩) (by assumption) ?_
                            rotate_left
                            · intro w hSw; (try dsimp only at hSw); go_simp; (try with_reducible rfl)
                            simp only [Act.put, List.setIfInBounds_toArray, List.set_cons_zero, List.set_cons_succ]
                            refine wpAnyH_take (i := 6) (oi := { dst := some 103, op := Op.move (Operand.tmp 11), type := 3, pos := "ref.go:56", after := #[], guard := none }) (v := ?_) rfl (by kernel_rfl) (by kernel_rfl) (by kernel_rfl) (fun _ _ _ h => h) (Or.inl ⟨by rfl, ?_⟩) (by assumption) ?_
                            rotate_left
                            · intro w hSw; (try dsimp only at hSw); go_simp; (try with_reducible rfl)
                            simp only [Act.put, List.setIfInBounds_toArray, List.set_cons_zero, List.set_cons_succ]
                            refine wpAnyH_take (i := 7) (oi := { dst := some 104, op := Op.binOp BinOp.add 3 (Operand.tmp 103) (Operand.const (Value.int IntKind.i64 2)) 3, type := 3, pos := "ref.go:56", after := #[{ on := 6, ground := Ground.data }], guard := none }) (v := ?_) rfl (by kernel_rfl) (by kernel_rfl) (by kernel_rfl) (fun _ _ _ h => h) (Or.inl ⟨by rfl, ?_⟩) (by assumption) ?_
                            rotate_left
                            · intro w hSw; (try dsimp only at hSw); go_simp; (try with_reducible rfl)
                            simp only [Act.put, List.setIfInBounds_toArray, List.set_cons_zero, List.set_cons_succ]
                            refine wpAnyH_take (i := 8) (oi := { dst := some 105, op := Op.index 9 (Operand.tmp 102) (Operand.tmp 104), type := 5, pos := "ref.go:56", after := #[{ on := 5, ground := Ground.data }, { on := 7, ground := Ground.data }], guard := none }) (v := ?_) rfl (by kernel_rfl) (by kernel_rfl) (by kernel_rfl) (fun _ _ _ h => h) (Or.inl ⟨by rfl, ?_⟩) (by assumption) ?_
                            rotate_left
                            · intro w hSw; (try dsimp only at hSw); go_simp; (try with_reducible rfl)
                            simp only [Act.put, List.setIfInBounds_toArray, List.set_cons_zero, List.set_cons_succ]
                            refine wpAnyH_take (i := 9) (oi := { dst := some 106, op := Op.build 44 #[(0, Operand.tmp 101), (1, Operand.tmp 105)], type := 44, pos := "ref.go:56", after := #[{ on := 4, ground := Ground.data }, { on := 8, ground := Ground.data }], guard := none }) (v := ?_) rfl (by kernel_rfl) (by kernel_rfl) (by kernel_rfl) (fun _ _ _ h => h) (Or.inl ⟨by rfl, ?_⟩) (by assumption) ?_
                            rotate_left
                            · intro w hSw; (try dsimp only at hSw); go_simp; (try with_reducible rfl)
                            simp only [Act.put, List.setIfInBounds_toArray, List.set_cons_zero, List.set_cons_succ]
                            refine wpAnyH_ready (rs := [1, 10]) (by kernel_rfl) (by simp) ?_
                            refine AllReadyH.cons (o := { dst := some 98, op := Op.load 40 (Operand.tmp 97), type := 40, pos := "ref.go:56", after := #[{ on := 0, ground := Ground.data }], guard := none }) rfl (fun KK hKK => ?_) (AllReadyH.cons (o := { dst := some 107, op := Op.buildSlice 40 1 #[(0, Operand.tmp 106)], type := 40, pos := "ref.go:56", after := #[{ on := 9, ground := Ground.data }], guard := none }) rfl (fun KK hKK => ?_) AllReadyH.nil)
                            · go_simp
                              refine hKK.out _ _ trivial (fun hHeld => ?_)
                              clear hKK KK
                              try simp only [Act.put, List.setIfInBounds_toArray, List.set_cons_zero, List.set_cons_succ]
                              refine wpAnyH_ready (rs := [10]) (by kernel_rfl) (by simp) ?_
                              refine AllReadyH.cons (o := { dst := some 107, op := Op.buildSlice 40 1 #[(0, Operand.tmp 106)], type := 40, pos := "ref.go:56", after := #[{ on := 9, ground := Ground.data }], guard := none }) rfl (fun KK hKK => ?_) AllReadyH.nil
                              go_simp
                              refine hKK.out _ _ trivial (fun hHeld => ?_)
                              clear hKK KK
                              try simp only [Act.put, List.setIfInBounds_toArray, List.set_cons_zero, List.set_cons_succ]
                              refine wpAnyH_ready (rs := [11]) (by kernel_rfl) (by simp) ?_
                              refine AllReadyH.cons (o := { dst := some 108, op := Op.call { callee := Callee.builtin Builtin.append, args := #[Operand.tmp 98, Operand.tmp 107], argTypes := #[40, 40] }, type := 40, pos := "ref.go:56", after := #[{ on := 1, ground := Ground.data }, { on := 10, ground := Ground.data }], guard := none }) rfl (fun KK hKK => ?_) AllReadyH.nil
                              refine step_append_lies _ (by rfl) _ _ _ (by rfl) (tb + 1) 44 i4 _ 2 2 Try.underlying40 h4i h4z h4s h4b rfl (by omega) (.slice ra' l.length rc') l.length (flatR l) (by simp [Act.eval]) (ownsRow_below (unhide Q3) (unhide bX _)) ⟨wr.heap.size, 0, none⟩ 1 1 [.int .u8 (s[i].toNat : Int), .int .u8 (s[jj].toNat : Int)] (by simp [Act.eval]) rfl two_cells two_one (by omega) (unhide HM1) (unhide HM2) (le_alloc q5) (wr.heap.size + 1) (by simp) ?_
                              intro gg cg w1 hown1 hgrow hat hlt1
                              have HOWN1 := hide hown1
                              have HGROW := hide hgrow
                              have ag : some tb ≠ (Value.slice ra' l.length rc').ownBlock := fun e => by have := (ownsRow_lt (unhide Q3) e.symm).1; omega
                              have d3 : w1.cell? ⟨tb, 3, none⟩ = some (.slice ra' l.length rc') := ((unhide HGROW).cell_far ⟨tb, 3, none⟩ (Nat.lt_of_lt_of_le q5 (unhide bX _).size) ag).trans (((unhide bX _).cell (p := ⟨tb, 3, none⟩) q5).trans c3)
                              have f3 : w1.frozen? ⟨tb, 3, none⟩ = false := ((unhide HGROW).frozen_far ⟨tb, 3, none⟩ (Nat.lt_of_lt_of_le q5 (unhide bX _).size) ag).trans (((unhide bX _).frozen (p := ⟨tb, 3, none⟩) q5).trans q2)
                              clear hat hown1 hgrow
                              refine hKK.out _ _ trivial (fun hHeld => ?_)
                              clear hKK KK
                              try simp only [Act.put, List.setIfInBounds_toArray, List.set_cons_zero, List.set_cons_succ]
                              refine wpAnyH_take (i := 12) (oi := { dst := some 109, op := Op.fieldAddr 42 (Operand.tmp 10) 3, type := 0, pos := "ref.go:56", after := #[{ on := 0, ground := Ground.phase }, { on := 1, ground := Ground.phase }, { on := 2, ground := Ground.phase }, { on := 3, ground := Ground.phase }, { on := 4, ground := Ground.phase }, { on := 5, ground := Ground.phase }, { on := 6, ground := Ground.phase }, { on := 7, ground := Ground.phase }, { on := 8, ground := Ground.phase }, { on := 9, ground := Ground.phase }, { on := 10, ground := Ground.phase }, { on := 11, ground := Ground.phase }], guard := none }) (v := ?_) rfl (by kernel_rfl) (by kernel_rfl) (by kernel_rfl) (fun _ _ _ h => h) (Or.inl ⟨by rfl, ?_⟩) (by assumption) ?_
                              rotate_left
                              · intro w hSw; (try dsimp only at hSw); go_simp; (try with_reducible rfl)
                              simp only [Act.put, List.setIfInBounds_toArray, List.set_cons_zero, List.set_cons_succ]
                              refine wpAnyH_ready (rs := [13]) (by kernel_rfl) (by simp) ?_
                              refine AllReadyH.cons (o := { dst := none, op := Op.store 40 (Operand.tmp 109) (Operand.tmp 108), type := 0, pos := "ref.go:56", after := #[{ on := 12, ground := Ground.data }, { on := 11, ground := Ground.data }, { on := 11, ground := Ground.chain }, { on := 0, ground := Ground.phase }, { on := 1, ground := Ground.phase }, { on := 2, ground := Ground.phase }, { on := 3, ground := Ground.phase }, { on := 4, ground := Ground.phase }, { on := 5, ground := Ground.phase }, { on := 6, ground := Ground.phase }, { on := 7, ground := Ground.phase }, { on := 8, ground := Ground.phase }, { on := 9, ground := Ground.phase }, { on := 10, ground := Ground.phase }, { on := 11, ground := Ground.phase }], guard := none }) rfl (fun KK hKK => ?_) AllReadyH.nil
                              go_simp
                              refine hKK.out _ _ trivial (fun hHeld => ?_)
                              clear hKK KK hHeld
                              refine wpAnyH_done (by kernel_rfl) ?_ _
                              have hd := cell_lt d3
                              have HD := hide d3
                              have HTK : Hid (TokCells w1 tb 0 (.slice ra' l.length rc') ⟨4, 0, false, []⟩) := hide ((unhide Q1).of_block ((((unhide HGROW).block tb (Nat.lt_of_lt_of_le q5 (unhide bX _).size) ag)).trans ((unhide bX _).block tb q5)))
                              have HBB : Hid (Below wA.heap.size wA w1) := hide (((unhide Q4).trans ((unhide bX _).mono (unhide Q4).size)).grown (unhide HGROW) (Nat.le_trans (unhide Q4).size (unhide bX _).size) (fun k hk => by have := (ownsRow_lt (unhide Q3) hk).1; omega))
                              have HRL : Hid ((l ++ [((s[i].toNat : Int), (s[jj].toNat : Int))]) ++ rangesL s q G (i + 3) e = rangesL s q (e - (k + 1)) (k + 1) e) := by
                                have h0 := unhide HR
                                rw [rangesL_hit hlie h22 h45] at h0
                                refine hide ?_
                                rw [← h0, sb_eq his, unhide HJ2, sb_eq hjs]
                                simp
                              clear c3 d3
                              go_wp2
                              go_roundw
                              case rel =>
                                refine ⟨i + 3, G, l ++ [((s[i].toNat : Int), (s[jj].toNat : Int))], some ⟨gg, 0, none⟩, cg, ⟨?_, ?_, ?_, ?_⟩, by have := unhide HJ2; go_num, by omega, by simp; omega, by omega, unhide HRL, ?_, (unhide HBB).setCell (p := ⟨tb, 3, none⟩) hwt _⟩
                                · exact (World.cell?_setCell_other _ _ _ _ (addr_ne (.inr (by omega)))).trans (unhide HTK).k0
                                · exact (World.cell?_setCell_other _ _ _ _ (addr_ne (.inr (by omega)))).trans (unhide HTK).k1
                                · exact (World.cell?_setCell_other _ _ _ _ (addr_ne (.inr (by omega)))).trans (unhide HTK).k2
                                · rw [List.length_append]; exact World.cell?_setCell_same _ _ _ (unhide HD)
                                · refine ownsRow_turns (B := tb) (m := 1) ?_ ((Turns.refl tb 1 w1).setCell (p := ⟨tb, 3, none⟩) (by simp) (by simp) _) (Nat.le_refl _)
                                  rw [flatR_snoc, List.length_append]
                                  exact unhide HOWN1
                              case measure => have := unhide HJ2; simp [intOf]; omega
                            · go_simp
                              refine hKK.out _ _ trivial (fun hHeld => ?_)
                              clear hKK KK
                              try simp only [Act.put, List.setIfInBounds_toArray, List.set_cons_zero, List.set_cons_succ]
                              have c3A := fun o => ((unhide bX o).cell (p := ⟨tb, 3, none⟩) q5).trans c3
                              refine wpAnyH_ready (rs := [1]) (by kernel_rfl) (by simp) ?_
                              refine AllReadyH.cons (o := { dst := some 98, op := Op.load 40 (Operand.tmp 97), type := 40, pos := "ref.go:56", after := #[{ on := 0, ground := Ground.data }], guard := none }) rfl (fun KK hKK => ?_) AllReadyH.nil
                              go_simp
                              refine hKK.out _ _ trivial (fun hHeld => ?_)
                              clear hKK KK
                              try simp only [Act.put, List.setIfInBounds_toArray, List.set_cons_zero, List.set_cons_succ]
                              refine wpAnyH_ready (rs := [11]) (by kernel_rfl) (by simp) ?_
                              refine AllReadyH.cons (o := { dst := some 108, op := Op.call { callee := Callee.builtin Builtin.append, args := #[Operand.tmp 98, Operand.tmp 107], argTypes := #[40, 40] }, type := 40, pos := "ref.go:56", after := #[{ on := 1, ground := Ground.data }, { on := 10, ground := Ground.data }], guard := none }) rfl (fun KK hKK => ?_) AllReadyH.nil
                              refine step_append_lies _ (by rfl) _ _ _ (by rfl) (tb + 1) 44 i4 _ 2 2 Try.underlying40 h4i h4z h4s h4b rfl (by omega) (.slice ra' l.length rc') l.length (flatR l) (by simp [Act.eval]) (ownsRow_below (unhide Q3) (unhide bX _)) ⟨wr.heap.size, 0, none⟩ 1 1 [.int .u8 (s[i].toNat : Int), .int .u8 (s[jj].toNat : Int)] (by simp [Act.eval]) rfl two_cells two_one (by omega) (unhide HM1) (unhide HM2) (le_alloc q5) (wr.heap.size + 1) (by simp) ?_
                              intro gg cg w1 hown1 hgrow hat hlt1
                              have HOWN1 := hide hown1
                              have HGROW := hide hgrow
                              have ag : some tb ≠ (Value.slice ra' l.length rc').ownBlock := fun e => by have := (ownsRow_lt (unhide Q3) e.symm).1; omega
                              have d3 : w1.cell? ⟨tb, 3, none⟩ = some (.slice ra' l.length rc') := ((unhide HGROW).cell_far ⟨tb, 3, none⟩ (Nat.lt_of_lt_of_le q5 (unhide bX _).size) ag).trans (((unhide bX _).cell (p := ⟨tb, 3, none⟩) q5).trans c3)
                              have f3 : w1.frozen? ⟨tb, 3, none⟩ = false := ((unhide HGROW).frozen_far ⟨tb, 3, none⟩ (Nat.lt_of_lt_of_le q5 (unhide bX _).size) ag).trans (((unhide bX _).frozen (p := ⟨tb, 3, none⟩) q5).trans q2)
                              clear hat hown1 hgrow
                              refine hKK.out _ _ trivial (fun hHeld => ?_)
                              clear hKK KK
                              try simp only [Act.put, List.setIfInBounds_toArray, List.set_cons_zero, List.set_cons_succ]
                              refine wpAnyH_take (i := 12) (oi := { dst := some 109, op := Op.fieldAddr 42 (Operand.tmp 10) 3, type := 0, pos := "ref.go:56", after := #[{ on := 0, ground := Ground.phase }, { on := 1, ground := Ground.phase }, { on := 2, ground := Ground.phase }, { on := 3, ground := Ground.phase }, { on := 4, ground := Ground.phase }, { on := 5, ground := Ground.phase }, { on := 6, ground := Ground.phase }, { on := 7, ground := Ground.phase }, { on := 8, ground := Ground.phase }, { on := 9, ground := Ground.phase }, { on := 10, ground := Ground.phase }, { on := 11, ground := Ground.phase }], guard := none }) (v := ?_) rfl (by kernel_rfl) (by kernel_rfl) (by kernel_rfl) (fun _ _ _ h => h) (Or.inl ⟨by rfl, ?_⟩) (by assumption) ?_
                              rotate_left
                              · intro w hSw; (try dsimp only at hSw); go_simp; (try with_reducible rfl)
                              simp only [Act.put, List.setIfInBounds_toArray, List.set_cons_zero, List.set_cons_succ]
                              refine wpAnyH_ready (rs := [13]) (by kernel_rfl) (by simp) ?_
                              refine AllReadyH.cons (o := { dst := none, op := Op.store 40 (Operand.tmp 109) (Operand.tmp 108), type := 0, pos := "ref.go:56", after := #[{ on := 12, ground := Ground.data }, { on := 11, ground := Ground.data }, { on := 11, ground := Ground.chain }, { on := 0, ground := Ground.phase }, { on := 1, ground := Ground.phase }, { on := 2, ground := Ground.phase }, { on := 3, ground := Ground.phase }, { on := 4, ground := Ground.phase }, { on := 5, ground := Ground.phase }, { on := 6, ground := Ground.phase }, { on := 7, ground := Ground.phase }, { on := 8, ground := Ground.phase }, { on := 9, ground := Ground.phase }, { on := 10, ground := Ground.phase }, { on := 11, ground := Ground.phase }], guard := none }) rfl (fun KK hKK => ?_) AllReadyH.nil
                              go_simp
                              refine hKK.out _ _ trivial (fun hHeld => ?_)
                              clear hKK KK hHeld
                              refine wpAnyH_done (by kernel_rfl) ?_ _
                              have hd := cell_lt d3
                              have HD := hide d3
                              have HTK : Hid (TokCells w1 tb 0 (.slice ra' l.length rc') ⟨4, 0, false, []⟩) := hide ((unhide Q1).of_block ((((unhide HGROW).block tb (Nat.lt_of_lt_of_le q5 (unhide bX _).size) ag)).trans ((unhide bX _).block tb q5)))
                              have HBB : Hid (Below wA.heap.size wA w1) := hide (((unhide Q4).trans ((unhide bX _).mono (unhide Q4).size)).grown (unhide HGROW) (Nat.le_trans (unhide Q4).size (unhide bX _).size) (fun k hk => by have := (ownsRow_lt (unhide Q3) hk).1; omega))
                              have HRL : Hid ((l ++ [((s[i].toNat : Int), (s[jj].toNat : Int))]) ++ rangesL s q G (i + 3) e = rangesL s q (e - (k + 1)) (k + 1) e) := by
                                have h0 := unhide HR
                                rw [rangesL_hit hlie h22 h45] at h0
                                refine hide ?_
                                rw [← h0, sb_eq his, unhide HJ2, sb_eq hjs]
                                simp
                              clear c3 d3
                              go_wp2
                              go_roundw
                              case rel =>
                                refine ⟨i + 3, G, l ++ [((s[i].toNat : Int), (s[jj].toNat : Int))], some ⟨gg, 0, none⟩, cg, ⟨?_, ?_, ?_, ?_⟩, by have := unhide HJ2; go_num, by omega, by simp; omega, by omega, unhide HRL, ?_, (unhide HBB).setCell (p := ⟨tb, 3, none⟩) hwt _⟩
                                · exact (World.cell?_setCell_other _ _ _ _ (addr_ne (.inr (by omega)))).trans (unhide HTK).k0
                                · exact (World.cell?_setCell_other _ _ _ _ (addr_ne (.inr (by omega)))).trans (unhide HTK).k1
                                · exact (World.cell?_setCell_other _ _ _ _ (addr_ne (.inr (by omega)))).trans (unhide HTK).k2
                                · rw [List.length_append]; exact World.cell?_setCell_same _ _ _ (unhide HD)
                                · refine ownsRow_turns (B := tb) (m := 1) ?_ ((Turns.refl tb 1 w1).setCell (p := ⟨tb, 3, none⟩) (by simp) (by simp) _) (Nat.le_refl _)
                                  rw [flatR_snoc, List.length_append]
                                  exact unhide HOWN1
                              case measure => have := unhide HJ2; simp [intOf]; omega
                          · rw [h45] at HC45
                            go_wp2_with fail
                            rw [show ((i : Int) + 1) = ((i + 1 : Nat) : Int) by omega]
                            refine (unhide HC45).mono ?_
                            rintro ee x1 ⟨rfl, hx1⟩
                            have hx2 := hx1.symm
                            subst hx2
                            clear hx1
                            go_wp2_with fail
                            have bX : Hid (∀ o, Below wr.heap.size wr (wr.alloc o).drew) := hide (fun o => ((Below.refl _ wr).alloc (Nat.le_refl _) o).drew)
                            refine wp_region_held_drew (S := fun _ => True) (by kernel_rfl) trivial (fun hHeld => ?_)
                            refine wpAnyH_take (i := 0) (oi := { dst := some 112, op := Op.fieldAddr 42 (Operand.tmp 10) 3, type := 0, pos := "ref.go:59", after := #[], guard := none }) (v := ?_) rfl (by kernel_rfl) (by kernel_rfl) (by kernel_rfl) (fun _ _ _ h => h) (Or.inl ⟨by rfl, ?_⟩) (by assumption) ?_
                            rotate_left
                            · intro w hSw; (try dsimp only at hSw); go_simp; (try with_reducible rfl)
                            simp only [Act.put, List.setIfInBounds_toArray, List.set_cons_zero, List.set_cons_succ]
                            refine wpAnyH_take (i := 2) (oi := { dst := some 114, op := Op.move (Operand.tmp 0), type := 9, pos := "ref.go:59", after := #[], guard := none }) (v := ?_) rfl (by kernel_rfl) (by kernel_rfl) (by kernel_rfl) (fun _ _ _ h => h) (Or.inl ⟨by rfl, ?_⟩) (by assumption) ?_
                            rotate_left
                            · intro w hSw; (try dsimp only at hSw); go_simp; (try with_reducible rfl)
                            simp only [Act.put, List.setIfInBounds_toArray, List.set_cons_zero, List.set_cons_succ]
                            refine wpAnyH_take (i := 3) (oi := { dst := some 115, op := Op.move (Operand.tmp 11), type := 3, pos := "ref.go:59", after := #[], guard := none }) (v := ?_) rfl (by kernel_rfl) (by kernel_rfl) (by kernel_rfl) (fun _ _ _ h => h) (Or.inl ⟨by rfl, ?_⟩) (by assumption) ?_
                            rotate_left
                            · intro w hSw; (try dsimp only at hSw); go_simp; (try with_reducible rfl)
                            simp only [Act.put, List.setIfInBounds_toArray, List.set_cons_zero, List.set_cons_succ]
                            refine wpAnyH_take (i := 4) (oi := { dst := some 116, op := Op.index 9 (Operand.tmp 114) (Operand.tmp 115), type := 5, pos := "ref.go:59", after := #[{ on := 2, ground := Ground.data }, { on := 3, ground := Ground.data }], guard := none }) (v := ?_) rfl (by kernel_rfl) (by kernel_rfl) (by kernel_rfl) (fun _ _ _ h => h) (Or.inl ⟨by rfl, ?_⟩) (by assumption) ?_
                            rotate_left
                            · intro w hSw; (try dsimp only at hSw); go_simp; (try with_reducible rfl)
                            simp only [Act.put, List.setIfInBounds_toArray, List.set_cons_zero, List.set_cons_succ]
                            refine wpAnyH_take (i := 5) (oi := { dst := some 117, op := Op.move (Operand.tmp 0), type := 9, pos := "ref.go:59", after := #[], guard := none }) (v := ?_) rfl (by kernel_rfl) (by kernel_rfl) (by kernel_rfl) (fun _ _ _ h => h) (Or.inl ⟨by rfl, ?_⟩) (by assumption) ?_
                            rotate_left
                            · intro w hSw; (try dsimp only at hSw); go_simp; (try with_reducible rfl)
                            simp only [Act.put, List.setIfInBounds_toArray, List.set_cons_zero, List.set_cons_succ]
                            refine wpAnyH_take (i := 6) (oi := { dst := some 118, op := Op.move (Operand.tmp 11), type := 3, pos := "ref.go:59", after := #[], guard := none }) (v := ?_) rfl (by kernel_rfl) (by kernel_rfl) (by kernel_rfl) (fun _ _ _ h => h) (Or.inl ⟨by rfl, ?_⟩) (by assumption) ?_
                            rotate_left
                            · intro w hSw; (try dsimp only at hSw); go_simp; (try with_reducible rfl)
                            simp only [Act.put, List.setIfInBounds_toArray, List.set_cons_zero, List.set_cons_succ]
                            refine wpAnyH_take (i := 7) (oi := { dst := some 119, op := Op.index 9 (Operand.tmp 117) (Operand.tmp 118), type := 5, pos := "ref.go:59", after := #[{ on := 5, ground := Ground.data }, { on := 6, ground := Ground.data }], guard := none }) (v := ?_) rfl (by kernel_rfl) (by kernel_rfl) (by kernel_rfl) (fun _ _ _ h => h) (Or.inl ⟨by rfl, ?_⟩) (by assumption) ?_
                            rotate_left
                            · intro w hSw; (try dsimp only at hSw); go_simp; (try with_reducible rfl)
                            simp only [Act.put, List.setIfInBounds_toArray, List.set_cons_zero, List.set_cons_succ]
                            refine wpAnyH_take (i := 8) (oi := { dst := some 120, op := Op.build 44 #[(0, Operand.tmp 116), (1, Operand.tmp 119)], type := 44, pos := "ref.go:59", after := #[{ on := 4, ground := Ground.data }, { on := 7, ground := Ground.data }], guard := none }) (v := ?_) rfl (by kernel_rfl) (by kernel_rfl) (by kernel_rfl) (fun _ _ _ h => h) (Or.inl ⟨by rfl, ?_⟩) (by assumption) ?_
                            rotate_left
                            · intro w hSw; (try dsimp only at hSw); go_simp; (try with_reducible rfl)
                            simp only [Act.put, List.setIfInBounds_toArray, List.set_cons_zero, List.set_cons_succ]
                            refine wpAnyH_ready (rs := [1, 9]) (by kernel_rfl) (by simp) ?_
                            refine AllReadyH.cons (o := { dst := some 113, op := Op.load 40 (Operand.tmp 112), type := 40, pos := "ref.go:59", after := #[{ on := 0, ground := Ground.data }], guard := none }) rfl (fun KK hKK => ?_) (AllReadyH.cons (o := { dst := some 121, op := Op.buildSlice 40 1 #[(0, Operand.tmp 120)], type := 40, pos := "ref.go:59", after := #[{ on := 8, ground := Ground.data }], guard := none }) rfl (fun KK hKK => ?_) AllReadyH.nil)
                            · go_simp
                              refine hKK.out _ _ trivial (fun hHeld => ?_)
                              clear hKK KK
                              try simp only [Act.put, List.setIfInBounds_toArray, List.set_cons_zero, List.set_cons_succ]
                              refine wpAnyH_ready (rs := [9]) (by kernel_rfl) (by simp) ?_
                              refine AllReadyH.cons (o := { dst := some 121, op := Op.buildSlice 40 1 #[(0, Operand.tmp 120)], type := 40, pos := "ref.go:59", after := #[{ on := 8, ground := Ground.data }], guard := none }) rfl (fun KK hKK => ?_) AllReadyH.nil
                              go_simp
                              refine hKK.out _ _ trivial (fun hHeld => ?_)
                              clear hKK KK
                              try simp only [Act.put, List.setIfInBounds_toArray, List.set_cons_zero, List.set_cons_succ]
                              refine wpAnyH_ready (rs := [10]) (by kernel_rfl) (by simp) ?_
                              refine AllReadyH.cons (o := { dst := some 122, op := Op.call { callee := Callee.builtin Builtin.append, args := #[Operand.tmp 113, Operand.tmp 121], argTypes := #[40, 40] }, type := 40, pos := "ref.go:59", after := #[{ on := 1, ground := Ground.data }, { on := 9, ground := Ground.data }], guard := none }) rfl (fun KK hKK => ?_) AllReadyH.nil
                              refine step_append_lies _ (by rfl) _ _ _ (by rfl) (tb + 1) 44 i4 _ 2 2 Try.underlying40 h4i h4z h4s h4b rfl (by omega) (.slice ra' l.length rc') l.length (flatR l) (by simp [Act.eval]) (ownsRow_below (unhide Q3) (unhide bX _)) ⟨wr.heap.size, 0, none⟩ 1 1 [.int .u8 (s[i].toNat : Int), .int .u8 (s[i].toNat : Int)] (by simp [Act.eval]) rfl two_cells two_one (by omega) (unhide HM1) (unhide HM2) (le_alloc q5) (wr.heap.size + 1) (by simp) ?_
                              intro gg cg w1 hown1 hgrow hat hlt1
                              have HOWN1 := hide hown1
                              have HGROW := hide hgrow
                              have ag : some tb ≠ (Value.slice ra' l.length rc').ownBlock := fun e => by have := (ownsRow_lt (unhide Q3) e.symm).1; omega
                              have d3 : w1.cell? ⟨tb, 3, none⟩ = some (.slice ra' l.length rc') := ((unhide HGROW).cell_far ⟨tb, 3, none⟩ (Nat.lt_of_lt_of_le q5 (unhide bX _).size) ag).trans (((unhide bX _).cell (p := ⟨tb, 3, none⟩) q5).trans c3)
                              have f3 : w1.frozen? ⟨tb, 3, none⟩ = false := ((unhide HGROW).frozen_far ⟨tb, 3, none⟩ (Nat.lt_of_lt_of_le q5 (unhide bX _).size) ag).trans (((unhide bX _).frozen (p := ⟨tb, 3, none⟩) q5).trans q2)
                              clear hat hown1 hgrow
                              refine hKK.out _ _ trivial (fun hHeld => ?_)
                              clear hKK KK
                              try simp only [Act.put, List.setIfInBounds_toArray, List.set_cons_zero, List.set_cons_succ]
                              refine wpAnyH_take (i := 11) (oi := { dst := some 123, op := Op.fieldAddr 42 (Operand.tmp 10) 3, type := 0, pos := "ref.go:59", after := #[{ on := 0, ground := Ground.phase }, { on := 1, ground := Ground.phase }, { on := 2, ground := Ground.phase }, { on := 3, ground := Ground.phase }, { on := 4, ground := Ground.phase }, { on := 5, ground := Ground.phase }, { on := 6, ground := Ground.phase }, { on := 7, ground := Ground.phase }, { on := 8, ground := Ground.phase }, { on := 9, ground := Ground.phase }, { on := 10, ground := Ground.phase }], guard := none }) (v := ?_) rfl (by kernel_rfl) (by kernel_rfl) (by kernel_rfl) (fun _ _ _ h => h) (Or.inl ⟨by rfl, ?_⟩) (by assumption) ?_
                              rotate_left
                              · intro w hSw; (try dsimp only at hSw); go_simp; (try with_reducible rfl)
                              simp only [Act.put, List.setIfInBounds_toArray, List.set_cons_zero, List.set_cons_succ]
                              refine wpAnyH_ready (rs := [12]) (by kernel_rfl) (by simp) ?_
                              refine AllReadyH.cons (o := { dst := none, op := Op.store 40 (Operand.tmp 123) (Operand.tmp 122), type := 0, pos := "ref.go:59", after := #[{ on := 11, ground := Ground.data }, { on := 10, ground := Ground.data }, { on := 10, ground := Ground.chain }, { on := 0, ground := Ground.phase }, { on := 1, ground := Ground.phase }, { on := 2, ground := Ground.phase }, { on := 3, ground := Ground.phase }, { on := 4, ground := Ground.phase }, { on := 5, ground := Ground.phase }, { on := 6, ground := Ground.phase }, { on := 7, ground := Ground.phase }, { on := 8, ground := Ground.phase }, { on := 9, ground := Ground.phase }, { on := 10, ground := Ground.phase }], guard := none }) rfl (fun KK hKK => ?_) AllReadyH.nil
                              go_simp
                              refine hKK.out _ _ trivial (fun hHeld => ?_)
                              clear hKK KK hHeld
                              refine wpAnyH_done (by kernel_rfl) ?_ _
                              have hd := cell_lt d3
                              have HD := hide d3
                              have HTK : Hid (TokCells w1 tb 0 (.slice ra' l.length rc') ⟨4, 0, false, []⟩) := hide ((unhide Q1).of_block ((((unhide HGROW).block tb (Nat.lt_of_lt_of_le q5 (unhide bX _).size) ag)).trans ((unhide bX _).block tb q5)))
                              have HBB : Hid (Below wA.heap.size wA w1) := hide (((unhide Q4).trans ((unhide bX _).mono (unhide Q4).size)).grown (unhide HGROW) (Nat.le_trans (unhide Q4).size (unhide bX _).size) (fun k hk => by have := (ownsRow_lt (unhide Q3) hk).1; omega))
                              have HRL : Hid ((l ++ [((s[i].toNat : Int), (s[i].toNat : Int))]) ++ rangesL s q G (i + 1) e = rangesL s q (e - (k + 1)) (k + 1) e) := by
                                have h0 := unhide HR
                                rw [rangesL_miss hlie (fun h => by rw [h45] at h; cases h.2)] at h0
                                refine hide ?_
                                rw [← h0, sb_eq his]
                                simp
                              clear c3 d3
                              go_wp2
                              go_roundw
                              case rel =>
                                refine ⟨i + 1, G, l ++ [((s[i].toNat : Int), (s[i].toNat : Int))], some ⟨gg, 0, none⟩, cg, ⟨?_, ?_, ?_, ?_⟩, by go_num, by omega, by simp; omega, by omega, unhide HRL, ?_, (unhide HBB).setCell (p := ⟨tb, 3, none⟩) hwt _⟩
                                · exact (World.cell?_setCell_other _ _ _ _ (addr_ne (.inr (by omega)))).trans (unhide HTK).k0
                                · exact (World.cell?_setCell_other _ _ _ _ (addr_ne (.inr (by omega)))).trans (unhide HTK).k1
                                · exact (World.cell?_setCell_other _ _ _ _ (addr_ne (.inr (by omega)))).trans (unhide HTK).k2
                                · rw [List.length_append]; exact World.cell?_setCell_same _ _ _ (unhide HD)
                                · refine ownsRow_turns (B := tb) (m := 1) ?_ ((Turns.refl tb 1 w1).setCell (p := ⟨tb, 3, none⟩) (by simp) (by simp) _) (Nat.le_refl _)
                                  rw [flatR_snoc, List.length_append]
                                  exact unhide HOWN1
                              case measure => simp [intOf]; omega
                            · go_simp
                              refine hKK.out _ _ trivial (fun hHeld => ?_)
                              clear hKK KK
                              try simp only [Act.put, List.setIfInBounds_toArray, List.set_cons_zero, List.set_cons_succ]
                              have c3A := fun o => ((unhide bX o).cell (p := ⟨tb, 3, none⟩) q5).trans c3
                              refine wpAnyH_ready (rs := [1]) (by kernel_rfl) (by simp) ?_
                              refine AllReadyH.cons (o := { dst := some 113, op := Op.load 40 (Operand.tmp 112), type := 40, pos := "ref.go:59", after := #[{ on := 0, ground := Ground.data }], guard := none }) rfl (fun KK hKK => ?_) AllReadyH.nil
                              go_simp
                              refine hKK.out _ _ trivial (fun hHeld => ?_)
                              clear hKK KK
                              try simp only [Act.put, List.setIfInBounds_toArray, List.set_cons_zero, List.set_cons_succ]
                              refine wpAnyH_ready (rs := [10]) (by kernel_rfl) (by simp) ?_
                              refine AllReadyH.cons (o := { dst := some 122, op := Op.call { callee := Callee.builtin Builtin.append, args := #[Operand.tmp 113, Operand.tmp 121], argTypes := #[40, 40] }, type := 40, pos := "ref.go:59", after := #[{ on := 1, ground := Ground.data }, { on := 9, ground := Ground.data }], guard := none }) rfl (fun KK hKK => ?_) AllReadyH.nil
                              refine step_append_lies _ (by rfl) _ _ _ (by rfl) (tb + 1) 44 i4 _ 2 2 Try.underlying40 h4i h4z h4s h4b rfl (by omega) (.slice ra' l.length rc') l.length (flatR l) (by simp [Act.eval]) (ownsRow_below (unhide Q3) (unhide bX _)) ⟨wr.heap.size, 0, none⟩ 1 1 [.int .u8 (s[i].toNat : Int), .int .u8 (s[i].toNat : Int)] (by simp [Act.eval]) rfl two_cells two_one (by omega) (unhide HM1) (unhide HM2) (le_alloc q5) (wr.heap.size + 1) (by simp) ?_
                              intro gg cg w1 hown1 hgrow hat hlt1
                              have HOWN1 := hide hown1
                              have HGROW := hide hgrow
                              have ag : some tb ≠ (Value.slice ra' l.length rc').ownBlock := fun e => by have := (ownsRow_lt (unhide Q3) e.symm).1; omega
                              have d3 : w1.cell? ⟨tb, 3, none⟩ = some (.slice ra' l.length rc') := ((unhide HGROW).cell_far ⟨tb, 3, none⟩ (Nat.lt_of_lt_of_le q5 (unhide bX _).size) ag).trans (((unhide bX _).cell (p := ⟨tb, 3, none⟩) q5).trans c3)
                              have f3 : w1.frozen? ⟨tb, 3, none⟩ = false := ((unhide HGROW).frozen_far ⟨tb, 3, none⟩ (Nat.lt_of_lt_of_le q5 (unhide bX _).size) ag).trans (((unhide bX _).frozen (p := ⟨tb, 3, none⟩) q5).trans q2)
                              clear hat hown1 hgrow
                              refine hKK.out _ _ trivial (fun hHeld => ?_)
                              clear hKK KK
                              try simp only [Act.put, List.setIfInBounds_toArray, List.set_cons_zero, List.set_cons_succ]
                              refine wpAnyH_take (i := 11) (oi := { dst := some 123, op := Op.fieldAddr 42 (Operand.tmp 10) 3, type := 0, pos := "ref.go:59", after := #[{ on := 0, ground := Ground.phase }, { on := 1, ground := Ground.phase }, { on := 2, ground := Ground.phase }, { on := 3, ground := Ground.phase }, { on := 4, ground := Ground.phase }, { on := 5, ground := Ground.phase }, { on := 6, ground := Ground.phase }, { on := 7, ground := Ground.phase }, { on := 8, ground := Ground.phase }, { on := 9, ground := Ground.phase }, { on := 10, ground := Ground.phase }], guard := none }) (v := ?_) rfl (by kernel_rfl) (by kernel_rfl) (by kernel_rfl) (fun _ _ _ h => h) (Or.inl ⟨by rfl, ?_⟩) (by assumption) ?_
                              rotate_left
                              · intro w hSw; (try dsimp only at hSw); go_simp; (try with_reducible rfl)
                              simp only [Act.put, List.setIfInBounds_toArray, List.set_cons_zero, List.set_cons_succ]
                              refine wpAnyH_ready (rs := [12]) (by kernel_rfl) (by simp) ?_
                              refine AllReadyH.cons (o := { dst := none, op := Op.store 40 (Operand.tmp 123) (Operand.tmp 122), type := 0, pos := "ref.go:59", after := #[{ on := 11, ground := Ground.data }, { on := 10, ground := Ground.data }, { on := 10, ground := Ground.chain }, { on := 0, ground := Ground.phase }, { on := 1, ground := Ground.phase }, { on := 2, ground := Ground.phase }, { on := 3, ground := Ground.phase }, { on := 4, ground := Ground.phase }, { on := 5, ground := Ground.phase }, { on := 6, ground := Ground.phase }, { on := 7, ground := Ground.phase }, { on := 8, ground := Ground.phase }, { on := 9, ground := Ground.phase }, { on := 10, ground := Ground.phase }], guard := none }) rfl (fun KK hKK => ?_) AllReadyH.nil
                              go_simp
                              refine hKK.out _ _ trivial (fun hHeld => ?_)
                              clear hKK KK hHeld
                              refine wpAnyH_done (by kernel_rfl) ?_ _
                              have hd := cell_lt d3
                              have HD := hide d3
                              have HTK : Hid (TokCells w1 tb 0 (.slice ra' l.length rc') ⟨4, 0, false, []⟩) := hide ((unhide Q1).of_block ((((unhide HGROW).block tb (Nat.lt_of_lt_of_le q5 (unhide bX _).size) ag)).trans ((unhide bX _).block tb q5)))
                              have HBB : Hid (Below wA.heap.size wA w1) := hide (((unhide Q4).trans ((unhide bX _).mono (unhide Q4).size)).grown (unhide HGROW) (Nat.le_trans (unhide Q4).size (unhide bX _).size) (fun k hk => by have := (ownsRow_lt (unhide Q3) hk).1; omega))
                              have HRL : Hid ((l ++ [((s[i].toNat : Int), (s[i].toNat : Int))]) ++ rangesL s q G (i + 1) e = rangesL s q (e - (k + 1)) (k + 1) e) := by
                                have h0 := unhide HR
                                rw [rangesL_miss hlie (fun h => by rw [h45] at h; cases h.2)] at h0
                                refine hide ?_
                                rw [← h0, sb_eq his]
                                simp
                              clear c3 d3
                              go_wp2
                              go_roundw
                              case rel =>
                                refine ⟨i + 1, G, l ++ [((s[i].toNat : Int), (s[i].toNat : Int))], some ⟨gg, 0, none⟩, cg, ⟨?_, ?_, ?_, ?_⟩, by go_num, by omega, by simp; omega, by omega, unhide HRL, ?_, (unhide HBB).setCell (p := ⟨tb, 3, none⟩) hwt _⟩
                                · exact (World.cell?_setCell_other _ _ _ _ (addr_ne (.inr (by omega)))).trans (unhide HTK).k0
                                · exact (World.cell?_setCell_other _ _ _ _ (addr_ne (.inr (by omega)))).trans (unhide HTK).k1
                                · exact (World.cell?_setCell_other _ _ _ _ (addr_ne (.inr (by omega)))).trans (unhide HTK).k2
                                · rw [List.length_append]; exact World.cell?_setCell_same _ _ _ (unhide HD)
                                · refine ownsRow_turns (B := tb) (m := 1) ?_ ((Turns.refl tb 1 w1).setCell (p := ⟨tb, 3, none⟩) (by simp) (by simp) _) (Nat.le_refl _)
                                  rw [flatR_snoc, List.length_append]
                                  exact unhide HOWN1
                              case measure => simp [intOf]; omega
                        · have hdn : decide ((i : Int) + 2 < (e : Int)) = false := by rw [decide_eq_false_iff_not]; omega
                          go_wp2_with fail
                          have bX : Hid (∀ o, Below wr.heap.size wr (wr.alloc o).drew) := hide (fun o => ((Below.refl _ wr).alloc (Nat.le_refl _) o).drew)
                          refine wp_region_held_drew (S := fun _ => True) (by kernel_rfl) trivial (fun hHeld => ?_)
                          refine wpAnyH_take (i := 0) (oi := { dst := some 112, op := Op.fieldAddr 42 (Operand.tmp 10) 3, type := 0, pos := "ref.go:59", after := #[], guard := none }) (v := ?_) rfl (by kernel_rfl) (by kernel_rfl) (by kernel_rfl) (fun _ _ _ h => h) (Or.inl ⟨by rfl, ?_⟩) (by assumption) ?_
                          rotate_left
                          · intro w hSw; (try dsimp only at hSw); go_simp; (try with_reducible rfl)
                          simp only [Act.put, List.setIfInBounds_toArray, List.set_cons_zero, List.set_cons_succ]
                          refine wpAnyH_take (i := 2) (oi := { dst := some 114, op := Op.move (Operand.tmp 0), type := 9, pos := "ref.go:59", after := #[], guard := none }) (v := ?_) rfl (by kernel_rfl) (by kernel_rfl) (by kernel_rfl) (fun _ _ _ h => h) (Or.inl ⟨by rfl, ?_⟩) (by assumption) ?_
                          rotate_left
                          · intro w hSw; (try dsimp only at hSw); go_simp; (try with_reducible rfl)
                          simp only [Act.put, List.setIfInBounds_toArray, List.set_cons_zero, List.set_cons_succ]
                          refine wpAnyH_take (i := 3) (oi := { dst := some 115, op := Op.move (Operand.tmp 11), type := 3, pos := "ref.go:59", after := #[], guard := none }) (v := ?_) rfl (by kernel_rfl) (by kernel_rfl) (by kernel_rfl) (fun _ _ _ h => h) (Or.inl ⟨by rfl, ?_⟩) (by assumption) ?_
                          rotate_left
                          · intro w hSw; (try dsimp only at hSw); go_simp; (try with_reducible rfl)
                          simp only [Act.put, List.setIfInBounds_toArray, List.set_cons_zero, List.set_cons_succ]
                          refine wpAnyH_take (i := 4) (oi := { dst := some 116, op := Op.index 9 (Operand.tmp 114) (Operand.tmp 115), type := 5, pos := "ref.go:59", after := #[{ on := 2, ground := Ground.data }, { on := 3, ground := Ground.data }], guard := none }) (v := ?_) rfl (by kernel_rfl) (by kernel_rfl) (by kernel_rfl) (fun _ _ _ h => h) (Or.inl ⟨by rfl, ?_⟩) (by assumption) ?_
                          rotate_left
                          · intro w hSw; (try dsimp only at hSw); go_simp; (try with_reducible rfl)
                          simp only [Act.put, List.setIfInBounds_toArray, List.set_cons_zero, List.set_cons_succ]
                          refine wpAnyH_take (i := 5) (oi := { dst := some 117, op := Op.move (Operand.tmp 0), type := 9, pos := "ref.go:59", after := #[], guard := none }) (v := ?_) rfl (by kernel_rfl) (by kernel_rfl) (by kernel_rfl) (fun _ _ _ h => h) (Or.inl ⟨by rfl, ?_⟩) (by assumption) ?_
                          rotate_left
                          · intro w hSw; (try dsimp only at hSw); go_simp; (try with_reducible rfl)
                          simp only [Act.put, List.setIfInBounds_toArray, List.set_cons_zero, List.set_cons_succ]
                          refine wpAnyH_take (i := 6) (oi := { dst := some 118, op := Op.move (Operand.tmp 11), type := 3, pos := "ref.go:59", after := #[], guard := none }) (v := ?_) rfl (by kernel_rfl) (by kernel_rfl) (by kernel_rfl) (fun _ _ _ h => h) (Or.inl ⟨by rfl, ?_⟩) (by assumption) ?_
                          rotate_left
                          · intro w hSw; (try dsimp only at hSw); go_simp; (try with_reducible rfl)
                          simp only [Act.put, List.setIfInBounds_toArray, List.set_cons_zero, List.set_cons_succ]
                          refine wpAnyH_take (i := 7) (oi := { dst := some 119, op := Op.index 9 (Operand.tmp 117) (Operand.tmp 118), type := 5, pos := "ref.go:59", after := #[{ on := 5, ground := Ground.data }, { on := 6, ground := Ground.data }], guard := none }) (v := ?_) rfl (by kernel_rfl) (by kernel_rfl) (by kernel_rfl) (fun _ _ _ h => h) (Or.inl ⟨by rfl, ?_⟩) (by assumption) ?_
                          rotate_left
                          · intro w hSw; (try dsimp only at hSw); go_simp; (try with_reducible rfl)
                          simp only [Act.put, List.setIfInBounds_toArray, List.set_cons_zero, List.set_cons_succ]
                          refine wpAnyH_take (i := 8) (oi := { dst := some 120, op := Op.build 44 #[(0, Operand.tmp 116), (1, Operand.tmp 119)], type := 44, pos := "ref.go:59", after := #[{ on := 4, ground := Ground.data }, { on := 7, ground := Ground.data }], guard := none }) (v := ?_) rfl (by kernel_rfl) (by kernel_rfl) (by kernel_rfl) (fun _ _ _ h => h) (Or.inl ⟨by rfl, ?_⟩) (by assumption) ?_
                          rotate_left
                          · intro w hSw; (try dsimp only at hSw); go_simp; (try with_reducible rfl)
                          simp only [Act.put, List.setIfInBounds_toArray, List.set_cons_zero, List.set_cons_succ]
                          refine wpAnyH_ready (rs := [1, 9]) (by kernel_rfl) (by simp) ?_
                          refine AllReadyH.cons (o := { dst := some 113, op := Op.load 40 (Operand.tmp 112), type := 40, pos := "ref.go:59", after := #[{ on := 0, ground := Ground.data }], guard := none }) rfl (fun KK hKK => ?_) (AllReadyH.cons (o := { dst := some 121, op := Op.buildSlice 40 1 #[(0, Operand.tmp 120)], type := 40, pos := "ref.go:59", after := #[{ on := 8, ground := Ground.data }], guard := none }) rfl (fun KK hKK => ?_) AllReadyH.nil)
                          · go_simp
                            refine hKK.out _ _ trivial (fun hHeld => ?_)
                            clear hKK KK
                            try simp only [Act.put, List.setIfInBounds_toArray, List.set_cons_zero, List.set_cons_succ]
                            refine wpAnyH_ready (rs := [9]) (by kernel_rfl) (by simp) ?_
                            refine AllReadyH.cons (o := { dst := some 121, op := Op.buildSlice 40 1 #[(0, Operand.tmp 120)], type := 40, pos := "ref.go:59", after := #[{ on := 8, ground := Ground.data }], guard := none }) rfl (fun KK hKK => ?_) AllReadyH.nil
                            go_simp
                            refine hKK.out _ _ trivial (fun hHeld => ?_)
                            clear hKK KK
                            try simp only [Act.put, List.setIfInBounds_toArray, List.set_cons_zero, List.set_cons_succ]
                            refine wpAnyH_ready (rs := [10]) (by kernel_rfl) (by simp) ?_
                            refine AllReadyH.cons (o := { dst := some 122, op := Op.call { callee := Callee.builtin Builtin.append, args := #[Operand.tmp 113, Operand.tmp 121], argTypes := #[40, 40] }, type := 40, pos := "ref.go:59", after := #[{ on := 1, ground := Ground.data }, { on := 9, ground := Ground.data }], guard := none }) rfl (fun KK hKK => ?_) AllReadyH.nil
                            refine step_append_lies _ (by rfl) _ _ _ (by rfl) (tb + 1) 44 i4 _ 2 2 Try.underlying40 h4i h4z h4s h4b rfl (by omega) (.slice ra' l.length rc') l.length (flatR l) (by simp [Act.eval]) (ownsRow_below (unhide Q3) (unhide bX _)) ⟨wr.heap.size, 0, none⟩ 1 1 [.int .u8 (s[i].toNat : Int), .int .u8 (s[i].toNat : Int)] (by simp [Act.eval]) rfl two_cells two_one (by omega) (unhide HM1) (unhide HM2) (le_alloc q5) (wr.heap.size + 1) (by simp) ?_
                            intro gg cg w1 hown1 hgrow hat hlt1
                            have HOWN1 := hide hown1
                            have HGROW := hide hgrow
                            have ag : some tb ≠ (Value.slice ra' l.length rc').ownBlock := fun e => by have := (ownsRow_lt (unhide Q3) e.symm).1; omega
                            have d3 : w1.cell? ⟨tb, 3, none⟩ = some (.slice ra' l.length rc') := ((unhide HGROW).cell_far ⟨tb, 3, none⟩ (Nat.lt_of_lt_of_le q5 (unhide bX _).size) ag).trans (((unhide bX _).cell (p := ⟨tb, 3, none⟩) q5).trans c3)
                            have f3 : w1.frozen? ⟨tb, 3, none⟩ = false := ((unhide HGROW).frozen_far ⟨tb, 3, none⟩ (Nat.lt_of_lt_of_le q5 (unhide bX _).size) ag).trans (((unhide bX _).frozen (p := ⟨tb, 3, none⟩) q5).trans q2)
                            clear hat hown1 hgrow
                            refine hKK.out _ _ trivial (fun hHeld => ?_)
                            clear hKK KK
                            try simp only [Act.put, List.setIfInBounds_toArray, List.set_cons_zero, List.set_cons_succ]
                            refine wpAnyH_take (i := 11) (oi := { dst := some 123, op := Op.fieldAddr 42 (Operand.tmp 10) 3, type := 0, pos := "ref.go:59", after := #[{ on := 0, ground := Ground.phase }, { on := 1, ground := Ground.phase }, { on := 2, ground := Ground.phase }, { on := 3, ground := Ground.phase }, { on := 4, ground := Ground.phase }, { on := 5, ground := Ground.phase }, { on := 6, ground := Ground.phase }, { on := 7, ground := Ground.phase }, { on := 8, ground := Ground.phase }, { on := 9, ground := Ground.phase }, { on := 10, ground := Ground.phase }], guard := none }) (v := ?_) rfl (by kernel_rfl) (by kernel_rfl) (by kernel_rfl) (fun _ _ _ h => h) (Or.inl ⟨by rfl, ?_⟩) (by assumption) ?_
                            rotate_left
                            · intro w hSw; (try dsimp only at hSw); go_simp; (try with_reducible rfl)
                            simp only [Act.put, List.setIfInBounds_toArray, List.set_cons_zero, List.set_cons_succ]
                            refine wpAnyH_ready (rs := [12]) (by kernel_rfl) (by simp) ?_
                            refine AllReadyH.cons (o := { dst := none, op := Op.store 40 (Operand.tmp 123) (Operand.tmp 122), type := 0, pos := "ref.go:59", after := #[{ on := 11, ground := Ground.data }, { on := 10, ground := Ground.data }, { on := 10, ground := Ground.chain }, { on := 0, ground := Ground.phase }, { on := 1, ground := Ground.phase }, { on := 2, ground := Ground.phase }, { on := 3, ground := Ground.phase }, { on := 4, ground := Ground.phase }, { on := 5, ground := Ground.phase }, { on := 6, ground := Ground.phase }, { on := 7, ground := Ground.phase }, { on := 8, ground := Ground.phase }, { on := 9, ground := Ground.phase }, { on := 10, ground := Ground.phase }], guard := none }) rfl (fun KK hKK => ?_) AllReadyH.nil
                            go_simp
                            refine hKK.out _ _ trivial (fun hHeld => ?_)
                            clear hKK KK hHeld
                            refine wpAnyH_done (by kernel_rfl) ?_ _
                            have hd := cell_lt d3
                            have HD := hide d3
                            have HTK : Hid (TokCells w1 tb 0 (.slice ra' l.length rc') ⟨4, 0, false, []⟩) := hide ((unhide Q1).of_block ((((unhide HGROW).block tb (Nat.lt_of_lt_of_le q5 (unhide bX _).size) ag)).trans ((unhide bX _).block tb q5)))
                            have HBB : Hid (Below wA.heap.size wA w1) := hide (((unhide Q4).trans ((unhide bX _).mono (unhide Q4).size)).grown (unhide HGROW) (Nat.le_trans (unhide Q4).size (unhide bX _).size) (fun k hk => by have := (ownsRow_lt (unhide Q3) hk).1; omega))
                            have HRL : Hid ((l ++ [((s[i].toNat : Int), (s[i].toNat : Int))]) ++ rangesL s q G (i + 1) e = rangesL s q (e - (k + 1)) (k + 1) e) := by
                              have h0 := unhide HR
                              rw [rangesL_miss hlie (fun h => h22 h.1)] at h0
                              refine hide ?_
                              rw [← h0, sb_eq his]
                              simp
                            clear c3 d3
                            go_wp2
                            go_roundw
                            case rel =>
                              refine ⟨i + 1, G, l ++ [((s[i].toNat : Int), (s[i].toNat : Int))], some ⟨gg, 0, none⟩, cg, ⟨?_, ?_, ?_, ?_⟩, by go_num, by omega, by simp; omega, by omega, unhide HRL, ?_, (unhide HBB).setCell (p := ⟨tb, 3, none⟩) hwt _⟩
                              · exact (World.cell?_setCell_other _ _ _ _ (addr_ne (.inr (by omega)))).trans (unhide HTK).k0
                              · exact (World.cell?_setCell_other _ _ _ _ (addr_ne (.inr (by omega)))).trans (unhide HTK).k1
                              · exact (World.cell?_setCell_other _ _ _ _ (addr_ne (.inr (by omega)))).trans (unhide HTK).k2
                              · rw [List.length_append]; exact World.cell?_setCell_same _ _ _ (unhide HD)
                              · refine ownsRow_turns (B := tb) (m := 1) ?_ ((Turns.refl tb 1 w1).setCell (p := ⟨tb, 3, none⟩) (by simp) (by simp) _) (Nat.le_refl _)
                                rw [flatR_snoc, List.length_append]
                                exact unhide HOWN1
                            case measure => simp [intOf]; omega
                          · go_simp
                            refine hKK.out _ _ trivial (fun hHeld => ?_)
                            clear hKK KK
                            try simp only [Act.put, List.setIfInBounds_toArray, List.set_cons_zero, List.set_cons_succ]
                            have c3A := fun o => ((unhide bX o).cell (p := ⟨tb, 3, none⟩) q5).trans c3
                            refine wpAnyH_ready (rs := [1]) (by kernel_rfl) (by simp) ?_
                            refine AllReadyH.cons (o := { dst := some 113, op := Op.load 40 (Operand.tmp 112), type := 40, pos := "ref.go:59", after := #[{ on := 0, ground := Ground.data }], guard := none }) rfl (fun KK hKK => ?_) AllReadyH.nil
                            go_simp
                            refine hKK.out _ _ trivial (fun hHeld => ?_)
                            clear hKK KK
                            try simp only [Act.put, List.setIfInBounds_toArray, List.set_cons_zero, List.set_cons_succ]
                            refine wpAnyH_ready (rs := [10]) (by kernel_rfl) (by simp) ?_
                            refine AllReadyH.cons (o := { dst := some 122, op := Op.call { callee := Callee.builtin Builtin.append, args := #[Operand.tmp 113, Operand.tmp 121], argTypes := #[40, 40] }, type := 40, pos := "ref.go:59", after := #[{ on := 1, ground := Ground.data }, { on := 9, ground := Ground.data }], guard := none }) rfl (fun KK hKK => ?_) AllReadyH.nil
                            refine step_append_lies _ (by rfl) _ _ _ (by rfl) (tb + 1) 44 i4 _ 2 2 Try.underlying40 h4i h4z h4s h4b rfl (by omega) (.slice ra' l.length rc') l.length (flatR l) (by simp [Act.eval]) (ownsRow_below (unhide Q3) (unhide bX _)) ⟨wr.heap.size, 0, none⟩ 1 1 [.int .u8 (s[i].toNat : Int), .int .u8 (s[i].toNat : Int)] (by simp [Act.eval]) rfl two_cells two_one (by omega) (unhide HM1) (unhide HM2) (le_alloc q5) (wr.heap.size + 1) (by simp) ?_
                            intro gg cg w1 hown1 hgrow hat hlt1
                            have HOWN1 := hide hown1
                            have HGROW := hide hgrow
                            have ag : some tb ≠ (Value.slice ra' l.length rc').ownBlock := fun e => by have := (ownsRow_lt (unhide Q3) e.symm).1; omega
                            have d3 : w1.cell? ⟨tb, 3, none⟩ = some (.slice ra' l.length rc') := ((unhide HGROW).cell_far ⟨tb, 3, none⟩ (Nat.lt_of_lt_of_le q5 (unhide bX _).size) ag).trans (((unhide bX _).cell (p := ⟨tb, 3, none⟩) q5).trans c3)
                            have f3 : w1.frozen? ⟨tb, 3, none⟩ = false := ((unhide HGROW).frozen_far ⟨tb, 3, none⟩ (Nat.lt_of_lt_of_le q5 (unhide bX _).size) ag).trans (((unhide bX _).frozen (p := ⟨tb, 3, none⟩) q5).trans q2)
                            clear hat hown1 hgrow
                            refine hKK.out _ _ trivial (fun hHeld => ?_)
                            clear hKK KK
                            try simp only [Act.put, List.setIfInBounds_toArray, List.set_cons_zero, List.set_cons_succ]
                            refine wpAnyH_take (i := 11) (oi := { dst := some 123, op := Op.fieldAddr 42 (Operand.tmp 10) 3, type := 0, pos := "ref.go:59", after := #[{ on := 0, ground := Ground.phase }, { on := 1, ground := Ground.phase }, { on := 2, ground := Ground.phase }, { on := 3, ground := Ground.phase }, { on := 4, ground := Ground.phase }, { on := 5, ground := Ground.phase }, { on := 6, ground := Ground.phase }, { on := 7, ground := Ground.phase }, { on := 8, ground := Ground.phase }, { on := 9, ground := Ground.phase }, { on := 10, ground := Ground.phase }], guard := none }) (v := ?_) rfl (by kernel_rfl) (by kernel_rfl) (by kernel_rfl) (fun _ _ _ h => h) (Or.inl ⟨by rfl, ?_⟩) (by assumption) ?_
                            rotate_left
                            · intro w hSw; (try dsimp only at hSw); go_simp; (try with_reducible rfl)
                            simp only [Act.put, List.setIfInBounds_toArray, List.set_cons_zero, List.set_cons_succ]
                            refine wpAnyH_ready (rs := [12]) (by kernel_rfl) (by simp) ?_
                            refine AllReadyH.cons (o := { dst := none, op := Op.store 40 (Operand.tmp 123) (Operand.tmp 122), type := 0, pos := "ref.go:59", after := #[{ on := 11, ground := Ground.data }, { on := 10, ground := Ground.data }, { on := 10, ground := Ground.chain }, { on := 0, ground := Ground.phase }, { on := 1, ground := Ground.phase }, { on := 2, ground := Ground.phase }, { on := 3, ground := Ground.phase }, { on := 4, ground := Ground.phase }, { on := 5, ground := Ground.phase }, { on := 6, ground := Ground.phase }, { on := 7, ground := Ground.phase }, { on := 8, ground := Ground.phase }, { on := 9, ground := Ground.phase }, { on := 10, ground := Ground.phase }], guard := none }) rfl (fun KK hKK => ?_) AllReadyH.nil
                            go_simp
                            refine hKK.out _ _ trivial (fun hHeld => ?_)
                            clear hKK KK hHeld
                            refine wpAnyH_done (by kernel_rfl) ?_ _
                            have hd := cell_lt d3
                            have HD := hide d3
                            have HTK : Hid (TokCells w1 tb 0 (.slice ra' l.length rc') ⟨4, 0, false, []⟩) := hide ((unhide Q1).of_block ((((unhide HGROW).block tb (Nat.lt_of_lt_of_le q5 (unhide bX _).size) ag)).trans ((unhide bX _).block tb q5)))
                            have HBB : Hid (Below wA.heap.size wA w1) := hide (((unhide Q4).trans ((unhide bX _).mono (unhide Q4).size)).grown (unhide HGROW) (Nat.le_trans (unhide Q4).size (unhide bX _).size) (fun k hk => by have := (ownsRow_lt (unhide Q3) hk).1; omega))
                            have HRL : Hid ((l ++ [((s[i].toNat : Int), (s[i].toNat : Int))]) ++ rangesL s q G (i + 1) e = rangesL s q (e - (k + 1)) (k + 1) e) := by
                              have h0 := unhide HR
                              rw [rangesL_miss hlie (fun h => h22 h.1)] at h0
                              refine hide ?_
                              rw [← h0, sb_eq his]
                              simp
                            clear c3 d3
                            go_wp2
                            go_roundw
                            case rel =>
                              refine ⟨i + 1, G, l ++ [((s[i].toNat : Int), (s[i].toNat : Int))], some ⟨gg, 0, none⟩, cg, ⟨?_, ?_, ?_, ?_⟩, by go_num, by omega, by simp; omega, by omega, unhide HRL, ?_, (unhide HBB).setCell (p := ⟨tb, 3, none⟩) hwt _⟩
                              · exact (World.cell?_setCell_other _ _ _ _ (addr_ne (.inr (by omega)))).trans (unhide HTK).k0
                              · exact (World.cell?_setCell_other _ _ _ _ (addr_ne (.inr (by omega)))).trans (unhide HTK).k1
                              · exact (World.cell?_setCell_other _ _ _ _ (addr_ne (.inr (by omega)))).trans (unhide HTK).k2
                              · rw [List.length_append]; exact World.cell?_setCell_same _ _ _ (unhide HD)
                              · refine ownsRow_turns (B := tb) (m := 1) ?_ ((Turns.refl tb 1 w1).setCell (p := ⟨tb, 3, none⟩) (by simp) (by simp) _) (Nat.le_refl _)
                                rw [flatR_snoc, List.length_append]
                                exact unhide HOWN1
                            case measure => simp [intOf]; omega
                      · have hie2 : i = e := by omega
                        have hfin : l = rangesL s q (e - (k + 1)) (k + 1) e := by
                          have h0 := unhide HR
                          have h1 : rangesL s q G i e = [] := by
                            cases G with
                            | zero => rfl
                            | succ G => rw [rangesL, if_neg hlie]
                          rwa [h1, List.append_nil] at h0
                        have HFIN := hide hfin
                        have HPX := hide ((unhide HPJ).below (unhide Q4))
                        have bX : Hid (∀ o, Below wr.heap.size wr (wr.alloc o)) := hide (fun o => (Below.refl _ wr).alloc (Nat.le_refl _) o)
                        have HL4 : Hid (∀ o, w.heap.size ≤ (wr.alloc o).heap.size) := hide (fun o => Nat.le_trans (unhide HBW).size (unhide bX o).size)
                        have HOX : Hid (∀ o, (wr.alloc o).ownsRow w.heap.size 42 4 u5 xs.length (flatV (xs.map valX))) := hide (fun o => ownsRow_below (unhide HPX).own (unhide bX o))
                        obtain ⟨n0, n1, n2, n3⟩ := unhide Q1
                        rw [Nat.zero_add] at n1 n2 n3
                        clear hfin c3
                        go_wp2_with (at_builtin; refine wpList_append_own _ rfl _ _ 24 rfl w.heap.size 42 i2 _ 4 40 Try.underlying24 h2i h2z h2s h2b rfl (by decide) _ _ _ rfl (unhide HOX _) ⟨wr.heap.size, 0, none⟩ 1 1 [.int .i64 4, .int .u8 0, .bool false, .slice ra' l.length rc'] rfl rfl tok_cells four_one (unhide HL1) (unhide HL2) (unhide HL4 _) ?_; intro v' w1 hown' hgrow hnil; have HOWN' := hide hown'; have HGROW := hide hgrow; clear hown' hgrow hnil)
                        go_wp2
                        go_roundw
                        case rel => exact ⟨e + 1, F, xs ++ [((ra', l.length, rc'), ⟨4, 0, false, l⟩)], by go_num, by omega, by omega, by simp; omega, next_eq hlt (by rw [unhide HCUTC, ← unhide HFIN]) (unhide HE), PJ.push ((ra', l.length, rc'), ⟨4, 0, false, l⟩) (unhide HPX) (own_base (unhide Q3) (by omega)) (unhide HOWN') (unhide HGROW)⟩
                        case measure => simp [intOf]; omega
                  · have HCUTD : Hid (cutT s q k = (⟨1, (s[k].toNat : Int), false, []⟩, k + 1)) := hide (by rw [unhide HCUT, h91, if_neg (by simp), sb_eq hlt])
                    rw [h91] at HC91
                    clear h91 hpe
                    go_wp2_with fail
                    refine (unhide HC93).mono ?_
                    rintro ee x1 ⟨rfl, hx1⟩
                    have hx2 := hx1.symm
                    subst hx2
                    clear hx1
                    go_wp2_with fail
                    refine (unhide HC91).mono ?_
                    rintro ee x1 ⟨rfl, hx1⟩
                    have hx2 := hx1.symm
                    subst hx2
                    clear hx1
                    go_wp2_with (at_builtin; refine wpList_append_own _ rfl _ _ 24 rfl w.heap.size 42 i2 _ 4 40 Try.underlying24 h2i h2z h2s h2b rfl (by decide) _ _ _ rfl (unhide HOA _) ⟨wA.heap.size, 0, none⟩ 1 1 [.int .i64 1, .int .u8 (s[k].toNat : Int), .bool false, .slice none 0 0] rfl rfl tok_cells four_one (unhide HL1) (unhide HL2) (unhide HL3 _) ?_; intro v' w1 hown' hgrow hnil; have HOWN' := hide hown'; have HGROW := hide hgrow; clear hown' hgrow hnil)
                    go_wp2
                    go_roundw
                    case rel => exact ⟨k + 1, F, xs ++ [((none, 0, 0), ⟨1, (s[k].toNat : Int), false, []⟩)], by go_num, by omega, by omega, by simp; omega, next_eq hlt (unhide HCUTD) (unhide HE), PJ.push ((none, 0, 0), ⟨1, (s[k].toNat : Int), false, []⟩) (unhide HPJ) (World.ownsRow_nil _ _ _ _) (unhide HOWN') (unhide HGROW)⟩
                    case measure => simp [intOf]; omega
                · rw [hpe] at HC93
                  have HN : Hid (findFrom (fun j => plainF s q j 93) s.size (s.size - (e + 1)) (e + 1) = classEnd s q (k + 1)) := hide (by rw [← findFrom_next hes hpe]; exact unhide HFE)
                  clear hpe
                  go_wp2_with fail
                  refine (unhide HC93).mono ?_
                  rintro ee x1 ⟨rfl, hx1⟩
                  have hx2 := hx1.symm
                  subst hx2
                  clear hx1
                  go_wp2
                  go_round
                  case rel => exact ⟨e + 1, by go_num, by omega, by omega, unhide HN⟩
                  case measure => simp [intOf]; omega
              · have hel : decide ((e : Int) < (s.size : Int)) = false := by rw [decide_eq_false_iff_not]; omega
                have heg : (s.size : Int) ≤ (e : Int) := by omega
                have HCE : Hid (classEnd s q (k + 1) = s.size) := hide (by rw [← unhide HFE]; exact findFrom_out (by omega))
                have HCUTD : Hid (cutT s q k = (⟨1, (s[k].toNat : Int), false, []⟩, k + 1)) := hide (by rw [unhide HCUT, unhide HCE, if_neg (by simp), sb_eq hlt])
                rcases Bool.eq_false_or_eq_true (plainF s q k 91) with h91 | h91
                all_goals
                  rw [h91] at HC91
                  clear h91
                  go_wp2_with fail
                  refine (unhide HC91).mono ?_
                  rintro ee x1 ⟨rfl, hx1⟩
                  have hx2 := hx1.symm
                  subst hx2
                  clear hx1
                  go_wp2_with (at_builtin; refine wpList_append_own _ rfl _ _ 24 rfl w.heap.size 42 i2 _ 4 40 Try.underlying24 h2i h2z h2s h2b rfl (by decide) _ _ _ rfl (unhide HOA _) ⟨wA.heap.size, 0, none⟩ 1 1 [.int .i64 1, .int .u8 (s[k].toNat : Int), .bool false, .slice none 0 0] rfl rfl tok_cells four_one (unhide HL1) (unhide HL2) (unhide HL3 _) ?_; intro v' w1 hown' hgrow hnil; have HOWN' := hide hown'; have HGROW := hide hgrow; clear hown' hgrow hnil)
                  go_wp2
                  go_roundw
                  case rel => exact ⟨k + 1, F, xs ++ [((none, 0, 0), ⟨1, (s[k].toNat : Int), false, []⟩)], by go_num, by omega, by omega, by simp; omega, next_eq hlt (unhide HCUTD) (unhide HE), PJ.push ((none, 0, 0), ⟨1, (s[k].toNat : Int), false, []⟩) (unhide HPJ) (World.ownsRow_nil _ _ _ _) (unhide HOWN') (unhide HGROW)⟩
                  case measure => simp [intOf]; omega
          · have hAe : A = k + 2 := unhide HA2
            subst hAe
            clear HA2
            go_wp2_with fail
            go_loop [9] (fun x => ∃ e : Nat, x = .int .i64 (e : Int) ∧ k + 2 + 1 ≤ e ∧ e ≤ s.size + 3 ∧ findFrom (fun j => plainF s q j 93) s.size (s.size - e) e = classEnd s q (k + 2)) (fun x => s.size - (intOf x).toNat)
            case atStart => exact ⟨k + 2 + 1, by go_num, Nat.le_refl _, by omega, rfl⟩
            case round =>
              obtain ⟨e, rfl, he1, he2, hfe⟩ := hrel
              have HFE := hide hfe
              clear hfe
              by_cases hes : e < s.size
              · have HC93 := hide (ris_any n s _ q e 93 wA (unhide HQr))
                have hel : (e : Int) < (s.size : Int) := by omega
                rcases Bool.eq_false_or_eq_true (plainF s q e 93) with hpe | hpe
                · rw [hpe] at HC93
                  have HCE : Hid (classEnd s q (k + 2) = e) := hide (by rw [← unhide HFE]; exact findFrom_in hes hpe)
                  rcases Bool.eq_false_or_eq_true (plainF s q k 91) with h91 | h91
                  · rw [h91] at HC91
                    have HCUTC : Hid (cutT s q k = (⟨4, 0, true, rangesL s q (e - (k + 2)) (k + 2) e⟩, e + 1)) := hide (by rw [unhide HCUT, unhide HCE, h91, if_pos (by simpa using hes)])
                    clear h91 hpe
                    go_wp2_with fail
                    refine (unhide HC93).mono ?_
                    rintro ee x1 ⟨rfl, hx1⟩
                    have hx2 := hx1.symm
                    subst hx2
                    clear hx1
                    go_wp2_with fail
                    refine (unhide HC91).mono ?_
                    rintro ee x1 ⟨rfl, hx1⟩
                    have hx2 := hx1.symm
                    subst hx2
                    clear hx1
                    go_wp2_with fail
                    obtain ⟨tb, htb⟩ : ∃ x, x = wA.heap.size := ⟨_, rfl⟩
                    rw [← htb]
                    obtain ⟨W1, hW1⟩ : ∃ wr, wr = wA.alloc (.cells #[.int .i64 4, .int .u8 0, .bool true, .slice none 0 0] 42) := ⟨_, rfl⟩
                    rw [← hW1]
                    have hnew : W1.heap[tb]? = some (.cells #[.int .i64 4, .int .u8 0, .bool true, .slice none 0 0] 42) := by rw [hW1, htb]; exact heap_new wA _
                    have HB1 : Hid (Below wA.heap.size wA W1) := hide (by rw [hW1]; exact (Below.refl _ wA).alloc (Nat.le_refl _) _)
                    have HT1 : Hid (TokCells W1 tb 0 (.slice none 0 0) ⟨4, 0, true, []⟩) := hide ⟨by unfold World.cell?; simp [hnew], by unfold World.cell?; simp [hnew], by unfold World.cell?; simp [hnew], by unfold World.cell?; simp [hnew]⟩
                    have HFR1 : Hid (W1.frozen? ⟨tb, 3, none⟩ = false) := hide (free_new hnew 3)
                    have htb1 : tb < W1.heap.size := (Array.getElem?_eq_some_iff.1 hnew).1
                    have hwt : wA.heap.size ≤ tb := by omega
                    clear hnew hW1 htb
                    go_loopw [11] (fun x wr => ∃ (i G : Nat) (l : List (Int × Int)) (ra' : Option Addr) (rc' : Nat), TokCells wr tb 0 (.slice ra' l.length rc') ⟨4, 0, true, []⟩ ∧ x = .int .i64 (i : Int) ∧ e - i ≤ G ∧ l.length ≤ i ∧ i ≤ e ∧ l ++ rangesL s q G i e = rangesL s q (e - (k + 2)) (k + 2) e ∧ wr.frozen? ⟨tb, 3, none⟩ = false ∧ wr.ownsRow (tb + 1) 44 2 (.slice ra' l.length rc') l.length (flatR l) ∧ Below wA.heap.size wA wr ∧ tb < wr.heap.size) (fun x _ => e - (intOf x).toNat)
                    case atStart => exact ⟨k + 2, e - (k + 2), [], none, 0, unhide HT1, by go_num, Nat.le_refl _, Nat.zero_le _, by omega, rfl, unhide HFR1, World.ownsRow_nil _ _ _ _, unhide HB1, htb1⟩
                    case round =>
                      obtain ⟨i, G, l, ra', rc', q1, rfl, hG, hll, hie, hrl, q2, q3, q4, q5⟩ := hrel
                      have Q1 := hide q1
                      have Q3 := hide q3
                      have Q4 := hide q4
                      have HR := hide hrl
                      have HBW : Hid (Below w.heap.size w wr) := hide ((unhide HPJ).bel.trans (q4.mono hws))
                      have HQX : Hid (QRow n wr (.slice a q.length cap) q) := hide ((unhide HQ).below ((unhide HBW).mono hn))
                      have c3 := q1.k3
                      rw [Nat.zero_add] at c3
                      clear q1 q3 q4 hrl HT1 HB1 HFR1 htb1
                      by_cases hlie : i < e
                      · cases G with
                        | zero => omega
                        | succ G =>
                        have his : i < s.size := by omega
                        have HM1 : Hid (l.length + 1 ≤ maxLen) := hide (by unfold maxLen; omega)
                        have HM2 : Hid ((l.length + 1) * 2 ≤ 140737488355328) := hide (by omega)
                        have m0 : (0 : Int) ≤ (i : Int) := by omega
                        have m1 : (i : Int) < (s.size : Int) := by omega
                        by_cases h22 : i + 2 < e
                        · obtain ⟨jj, hjj⟩ : ∃ jj : Nat, (i : Int) + 2 = (jj : Int) := ⟨i + 2, by omega⟩
                          have hjs : jj < s.size := by omega
                          have HJ2 : Hid (i + 2 = jj) := hide (by omega)
                          have m2 : (0 : Int) ≤ (jj : Int) := by omega
                          have m3 : (jj : Int) < (s.size : Int) := by omega
                          have m4 : IntKind.i64.wrap ((i : Int) + 2) = (jj : Int) := by rw [IntKind.wrap_i64]; omega
                          have m5 : IntKind.i64.wrap (jj : Int) = (jj : Int) := by rw [IntKind.wrap_i64]; omega
                          have hje : (jj : Int) < (e : Int) := by omega
                          have HC45 := hide (ris_any n s _ q (i + 1) 45 wr (unhide HQX))
                          rcases Bool.eq_false_or_eq_true (plainF s q (i + 1) 45) with h45 | h45
                          · rw [h45] at HC45
                            go_wp2_with fail
                            rw [show ((i : Int) + 1) = ((i + 1 : Nat) : Int) by omega]
                            refine (unhide HC45).mono ?_
                            rintro ee x1 ⟨rfl, hx1⟩
                            have hx2 := hx1.symm
                            subst hx2
                            clear hx1
                            go_wp2_with fail
                            have bX : Hid (∀ o, Below wr.heap.size wr (wr.alloc o).drew) := hide (fun o => ((Below.refl _ wr).alloc (Nat.le_refl _) o).drew)
                            refine wp_region_held_drew (S := fun _ => True) (by kernel_rfl) trivial (fun hHeld => ?_)
                            refine wpAnyH_take (i := 0) (oi := { dst := some 97, op := Op.fieldAddr 42 (Operand.tmp 10) 3, type := 0, pos := "ref.go:56", after := #[], guard := none }) (v := ?_) rfl (by kernel_rfl) (by kernel_rfl) (by kernel_rfl) (fun _ _ _ h => h) (Or.inl ⟨by rfl, ?_⟩) (by assumption) ?_
                            rotate_left
                            · intro w hSw; (try dsimp only at hSw); go_simp; (try with_reducible rfl)
                            simp only [Act.put, List.setIfInBounds_toArray, List.set_cons_zero, List.set_cons_succ]
                            refine wpAnyH_take (i := 2) (oi := { dst := some 99, op := Op.move (Operand.tmp 0), type := 9, pos := "ref.go:56", after := #[], guard := none }) (v := ?_) rfl (by kernel_rfl) (by kernel_rfl) (by kernel_rfl) (fun _ _ _ h => h) (Or.inl ⟨by rfl, ?_⟩) (by assumption) ?_
                            rotate_left
                            · intro w hSw; (try dsimp only at hSw); go_simp; (try with_reducible rfl)
                            simp only [Act.put, List.setIfInBounds_toArray, List.set_cons_zero, List.set_cons_succ]
                            refine wpAnyH_take (i := 3) (oi := { dst := some 100, op := Op.move (Operand.tmp 11), type := 3, pos := "ref.go:56", after := #[], guard := none }) (v := ?_) rfl (by kernel_rfl) (by kernel_rfl) (by kernel_rfl) (fun _ _ _ h => h) (Or.inl ⟨by rfl, ?_⟩) (by assumption) ?_
                            rotate_left
                            · intro w hSw; (try dsimp only at hSw); go_simp; (try with_reducible rfl)
                            simp only [Act.put, List.setIfInBounds_toArray, List.set_cons_zero, List.set_cons_succ]
                            refine wpAnyH_take (i := 4) (oi := { dst := some 101, op := Op.index 9 (Operand.tmp 99) (Operand.tmp 100), type := 5, pos := "ref.go:56", after := #[{ on := 2, ground := Ground.data }, { on := 3, ground := Ground.data }], guard := none }) (v := ?_) rfl (by kernel_rfl) (by kernel_rfl) (by kernel_rfl) (fun _ _ _ h => h) (Or.inl ⟨by rfl, ?_⟩) (by assumption) ?_
                            rotate_left
                            · intro w hSw; (try dsimp only at hSw); go_simp; (try with_reducible rfl)
                            simp only [Act.put, List.setIfInBounds_toArray, List.set_cons_zero, List.set_cons_succ]
                            refine wpAnyH_take (i := 5) (oi := { dst := some 102, op := Op.move (Operand.tmp 0), type := 9, pos := "ref.go:56", after := #[], guard := none }) (v := ?_) rfl (by kernel_rfl) (by kernel_rfl) (by kernel_rfl) (fun _ _ _ h => h) (Or.inl ⟨by rfl, ?_⟩) (by assumption) ?_
                            rotate_left
                            · intro w hSw; (try dsimp only at hSw); go_simp; (try with_reducible rfl)
                            simp only [Act.put, List.setIfInBounds_toArray, List.set_cons_zero, List.set_cons_succ]
                            refine wpAnyH_take (i := 6) (oi := { dst := some 103, op := Op.move (Operand.tmp 11), type := 3, pos := "ref.go:56", after := #[], guard := none }) (v := ?_) rfl (by kernel_rfl) (by kernel_rfl) (by kernel_rfl) (fun _ _ _ h => h) (Or.inl ⟨by rfl, ?_⟩) (by assumption) ?_
                            rotate_left
                            · intro w hSw; (try dsimp only at hSw); go_simp; (try with_reducible rfl)
                            simp only [Act.put, List.setIfInBounds_toArray, List.set_cons_zero, List.set_cons_succ]
                            refine wpAnyH_take (i := 7) (oi := { dst := some 104, op := Op.binOp BinOp.add 3 (Operand.tmp 103) (Operand.const (Value.int IntKind.i64 2)) 3, type := 3, pos := "ref.go:56", after := #[{ on := 6, ground := Ground.data }], guard := none }) (v := ?_) rfl (by kernel_rfl) (by kernel_rfl) (by kernel_rfl) (fun _ _ _ h => h) (Or.inl ⟨by rfl, ?_⟩) (by assumption) ?_
                            rotate_left
                            · intro w hSw; (try dsimp only at hSw); go_simp; (try with_reducible rfl)
                            simp only [Act.put, List.setIfInBounds_toArray, List.set_cons_zero, List.set_cons_succ]
                            refine wpAnyH_take (i := 8) (oi := { dst := some 105, op := Op.index 9 (Operand.tmp 102) (Operand.tmp 104), type := 5, pos := "ref.go:56", after := #[{ on := 5, ground := Ground.data }, { on := 7, ground := Ground.data }], guard := none }) (v := ?_) rfl (by kernel_rfl) (by kernel_rfl) (by kernel_rfl) (fun _ _ _ h => h) (Or.inl ⟨by rfl, ?_⟩) (by assumption) ?_
                            rotate_left
                            · intro w hSw; (try dsimp only at hSw); go_simp; (try with_reducible rfl)
                            simp only [Act.put, List.setIfInBounds_toArray, List.set_cons_zero, List.set_cons_succ]
                            refine wpAnyH_take (i := 9) (oi := { dst := some 106, op := Op.build 44 #[(0, Operand.tmp 101), (1, Operand.tmp 105)], type := 44, pos := "ref.go:56", after := #[{ on := 4, ground := Ground.data }, { on := 8, ground := Ground.data }], guard := none }) (v := ?_) rfl (by kernel_rfl) (by kernel_rfl) (by kernel_rfl) (fun _ _ _ h => h) (Or.inl ⟨by rfl, ?_⟩) (by assumption) ?_
                            rotate_left
                            · intro w hSw; (try dsimp only at hSw); go_simp; (try with_reducible rfl)
                            simp only [Act.put, List.setIfInBounds_toArray, List.set_cons_zero, List.set_cons_succ]
                            refine wpAnyH_ready (rs := [1, 10]) (by kernel_rfl) (by simp) ?_
                            refine AllReadyH.cons (o := { dst := some 98, op := Op.load 40 (Operand.tmp 97), type := 40, pos := "ref.go:56", after := #[{ on := 0, ground := Ground.data }], guard := none }) rfl (fun KK hKK => ?_) (AllReadyH.cons (o := { dst := some 107, op := Op.buildSlice 40 1 #[(0, Operand.tmp 106)], type := 40, pos := "ref.go:56", after := #[{ on := 9, ground := Ground.data }], guard := none }) rfl (fun KK hKK => ?_) AllReadyH.nil)
                            · go_simp
                              refine hKK.out _ _ trivial (fun hHeld => ?_)
                              clear hKK KK
                              try simp only [Act.put, List.setIfInBounds_toArray, List.set_cons_zero, List.set_cons_succ]
                              refine wpAnyH_ready (rs := [10]) (by kernel_rfl) (by simp) ?_
                              refine AllReadyH.cons (o := { dst := some 107, op := Op.buildSlice 40 1 #[(0, Operand.tmp 106)], type := 40, pos := "ref.go:56", after := #[{ on := 9, ground := Ground.data }], guard := none }) rfl (fun KK hKK => ?_) AllReadyH.nil
                              go_simp
                              refine hKK.out _ _ trivial (fun hHeld => ?_)
                              clear hKK KK
                              try simp only [Act.put, List.setIfInBounds_toArray, List.set_cons_zero, List.set_cons_succ]
                              refine wpAnyH_ready (rs := [11]) (by kernel_rfl) (by simp) ?_
                              refine AllReadyH.cons (o := { dst := some 108, op := Op.call { callee := Callee.builtin Builtin.append, args := #[Operand.tmp 98, Operand.tmp 107], argTypes := #[40, 40] }, type := 40, pos := "ref.go:56", after := #[{ on := 1, ground := Ground.data }, { on := 10, ground := Ground.data }], guard := none }) rfl (fun KK hKK => ?_) AllReadyH.nil
                              refine step_append_lies _ (by rfl) _ _ _ (by rfl) (tb + 1) 44 i4 _ 2 2 Try.underlying40 h4i h4z h4s h4b rfl (by omega) (.slice ra' l.length rc') l.length (flatR l) (by simp [Act.eval]) (ownsRow_below (unhide Q3) (unhide bX _)) ⟨wr.heap.size, 0, none⟩ 1 1 [.int .u8 (s[i].toNat : Int), .int .u8 (s[jj].toNat : Int)] (by simp [Act.eval]) rfl two_cells two_one (by omega) (unhide HM1) (unhide HM2) (le_alloc q5) (wr.heap.size + 1) (by simp) ?_
                              intro gg cg w1 hown1 hgrow hat hlt1
                              have HOWN1 := hide hown1
                              have HGROW := hide hgrow
                              have ag : some tb ≠ (Value.slice ra' l.length rc').ownBlock := fun e => by have := (ownsRow_lt (unhide Q3) e.symm).1; omega
                              have d3 : w1.cell? ⟨tb, 3, none⟩ = some (.slice ra' l.length rc') := ((unhide HGROW).cell_far ⟨tb, 3, none⟩ (Nat.lt_of_lt_of_le q5 (unhide bX _).size) ag).trans (((unhide bX _).cell (p := ⟨tb, 3, none⟩) q5).trans c3)
                              have f3 : w1.frozen? ⟨tb, 3, none⟩ = false := ((unhide HGROW).frozen_far ⟨tb, 3, none⟩ (Nat.lt_of_lt_of_le q5 (unhide bX _).size) ag).trans (((unhide bX _).frozen (p := ⟨tb, 3, none⟩) q5).trans q2)
                              clear hat hown1 hgrow
                              refine hKK.out _ _ trivial (fun hHeld => ?_)
                              clear hKK KK
                              try simp only [Act.put, List.setIfInBounds_toArray, List.set_cons_zero, List.set_cons_succ]
                              refine wpAnyH_take (i := 12) (oi := { dst := some 109, op := Op.fieldAddr 42 (Operand.tmp 10) 3, type := 0, pos := "ref.go:56", after := #[{ on := 0, ground := Ground.phase }, { on := 1, ground := Ground.phase }, { on := 2, ground := Ground.phase }, { on := 3, ground := Ground.phase }, { on := 4, ground := Ground.phase }, { on := 5, ground := Ground.phase }, { on := 6, ground := Ground.phase }, { on := 7, ground := Ground.phase }, { on := 8, ground := Ground.phase }, { on := 9, ground := Ground.phase }, { on := 10, ground := Ground.phase }, { on := 11, ground := Ground.phase }], guard := none }) (v := ?_) rfl (by kernel_rfl) (by kernel_rfl) (by kernel_rfl) (fun _ _ _ h => h) (Or.inl ⟨by rfl, ?_⟩) (by assumption) ?_
                              rotate_left
                              · intro w hSw; (try dsimp only at hSw); go_simp; (try with_reducible rfl)
                              simp only [Act.put, List.setIfInBounds_toArray, List.set_cons_zero, List.set_cons_succ]
                              refine wpAnyH_ready (rs := [13]) (by kernel_rfl) (by simp) ?_
                              refine AllReadyH.cons (o := { dst := none, op := Op.store 40 (Operand.tmp 109) (Operand.tmp 108), type := 0, pos := "ref.go:56", after := #[{ on := 12, ground := Ground.data }, { on := 11, ground := Ground.data }, { on := 11, ground := Ground.chain }, { on := 0, ground := Ground.phase }, { on := 1, ground := Ground.phase }, { on := 2, ground := Ground.phase }, { on := 3, ground := Ground.phase }, { on := 4, ground := Ground.phase }, { on := 5, ground := Ground.phase }, { on := 6, ground := Ground.phase }, { on := 7, ground := Ground.phase }, { on := 8, ground := Ground.phase }, { on := 9, ground := Ground.phase }, { on := 10, ground := Ground.phase }, { on := 11, ground := Ground.phase }], guard := none }) rfl (fun KK hKK => ?_) AllReadyH.nil
                              go_simp
                              refine hKK.out _ _ trivial (fun hHeld => ?_)
                              clear hKK KK hHeld
                              refine wpAnyH_done (by kernel_rfl) ?_ _
                              have hd := cell_lt d3
                              have HD := hide d3
                              have HTK : Hid (TokCells w1 tb 0 (.slice ra' l.length rc') ⟨4, 0, true, []⟩) := hide ((unhide Q1).of_block ((((unhide HGROW).block tb (Nat.lt_of_lt_of_le q5 (unhide bX _).size) ag)).trans ((unhide bX _).block tb q5)))
                              have HBB : Hid (Below wA.heap.size wA w1) := hide (((unhide Q4).trans ((unhide bX _).mono (unhide Q4).size)).grown (unhide HGROW) (Nat.le_trans (unhide Q4).size (unhide bX _).size) (fun k hk => by have := (ownsRow_lt (unhide Q3) hk).1; omega))
                              have HRL : Hid ((l ++ [((s[i].toNat : Int), (s[jj].toNat : Int))]) ++ rangesL s q G (i + 3) e = rangesL s q (e - (k + 2)) (k + 2) e) := by
                                have h0 := unhide HR
                                rw [rangesL_hit hlie h22 h45] at h0
                                refine hide ?_
                                rw [← h0, sb_eq his, unhide HJ2, sb_eq hjs]
                                simp
                              clear c3 d3
                              go_wp2
                              go_roundw
                              case rel =>
                                refine ⟨i + 3, G, l ++ [((s[i].toNat : Int), (s[jj].toNat : Int))], some ⟨gg, 0, none⟩, cg, ⟨?_, ?_, ?_, ?_⟩, by have := unhide HJ2; go_num, by omega, by simp; omega, by omega, unhide HRL, ?_, (unhide HBB).setCell (p := ⟨tb, 3, none⟩) hwt _⟩
                                · exact (World.cell?_setCell_other _ _ _ _ (addr_ne (.inr (by omega)))).trans (unhide HTK).k0
                                · exact (World.cell?_setCell_other _ _ _ _ (addr_ne (.inr (by omega)))).trans (unhide HTK).k1
                                · exact (World.cell?_setCell_other _ _ _ _ (addr_ne (.inr (by omega)))).trans (unhide HTK).k2
                                · rw [List.length_append]; exact World.cell?_setCell_same _ _ _ (unhide HD)
                                · refine ownsRow_turns (B := tb) (m := 1) ?_ ((Turns.refl tb 1 w1).setCell (p := ⟨tb, 3, none⟩) (by simp) (by simp) _) (Nat.le_refl _)
                                  rw [flatR_snoc, List.length_append]
                                  exact unhide HOWN1
                              case measure => have := unhide HJ2; simp [intOf]; omega
                            · go_simp
                              refine hKK.out _ _ trivial (fun hHeld => ?_)
                              clear hKK KK
                              try simp only [Act.put, List.setIfInBounds_toArray, List.set_cons_zero, List.set_cons_succ]
                              have c3A := fun o => ((unhide bX o).cell (p := ⟨tb, 3, none⟩) q5).trans c3
                              refine wpAnyH_ready (rs := [1]) (by kernel_rfl) (by simp) ?_
                              refine AllReadyH.cons (o := { dst := some 98, op := Op.load 40 (Operand.tmp 97), type := 40, pos := "ref.go:56", after := #[{ on := 0, ground := Ground.data }], guard := none }) rfl (fun KK hKK => ?_) AllReadyH.nil
                              go_simp
                              refine hKK.out _ _ trivial (fun hHeld => ?_)
                              clear hKK KK
                              try simp only [Act.put, List.setIfInBounds_toArray, List.set_cons_zero, List.set_cons_succ]
                              refine wpAnyH_ready (rs := [11]) (by kernel_rfl) (by simp) ?_
                              refine AllReadyH.cons (o := { dst := some 108, op := Op.call { callee := Callee.builtin Builtin.append, args := #[Operand.tmp 98, Operand.tmp 107], argTypes := #[40, 40] }, type := 40, pos := "ref.go:56", after := #[{ on := 1, ground := Ground.data }, { on := 10, ground := Ground.data }], guard := none }) rfl (fun KK hKK => ?_) AllReadyH.nil
                              refine step_append_lies _ (by rfl) _ _ _ (by rfl) (tb + 1) 44 i4 _ 2 2 Try.underlying40 h4i h4z h4s h4b rfl (by omega) (.slice ra' l.length rc') l.length (flatR l) (by simp [Act.eval]) (ownsRow_below (unhide Q3) (unhide bX _)) ⟨wr.heap.size, 0, none⟩ 1 1 [.int .u8 (s[i].toNat : Int), .int .u8 (s[jj].toNat : Int)] (by simp [Act.eval]) rfl two_cells two_one (by omega) (unhide HM1) (unhide HM2) (le_alloc q5) (wr.heap.size + 1) (by simp) ?_
                              intro gg cg w1 hown1 hgrow hat hlt1
                              have HOWN1 := hide hown1
                              have HGROW := hide hgrow
                              have ag : some tb ≠ (Value.slice ra' l.length rc').ownBlock := fun e => by have := (ownsRow_lt (unhide Q3) e.symm).1; omega
                              have d3 : w1.cell? ⟨tb, 3, none⟩ = some (.slice ra' l.length rc') := ((unhide HGROW).cell_far ⟨tb, 3, none⟩ (Nat.lt_of_lt_of_le q5 (unhide bX _).size) ag).trans (((unhide bX _).cell (p := ⟨tb, 3, none⟩) q5).trans c3)
                              have f3 : w1.frozen? ⟨tb, 3, none⟩ = false := ((unhide HGROW).frozen_far ⟨tb, 3, none⟩ (Nat.lt_of_lt_of_le q5 (unhide bX _).size) ag).trans (((unhide bX _).frozen (p := ⟨tb, 3, none⟩) q5).trans q2)
                              clear hat hown1 hgrow
                              refine hKK.out _ _ trivial (fun hHeld => ?_)
                              clear hKK KK
                              try simp only [Act.put, List.setIfInBounds_toArray, List.set_cons_zero, List.set_cons_succ]
                              refine wpAnyH_take (i := 12) (oi := { dst := some 109, op := Op.fieldAddr 42 (Operand.tmp 10) 3, type := 0, pos := "ref.go:56", after := #[{ on := 0, ground := Ground.phase }, { on := 1, ground := Ground.phase }, { on := 2, ground := Ground.phase }, { on := 3, ground := Ground.phase }, { on := 4, ground := Ground.phase }, { on := 5, ground := Ground.phase }, { on := 6, ground := Ground.phase }, { on := 7, ground := Ground.phase }, { on := 8, ground := Ground.phase }, { on := 9, ground := Ground.phase }, { on := 10, ground := Ground.phase }, { on := 11, ground := Ground.phase }], guard := none }) (v := ?_) rfl (by kernel_rfl) (by kernel_rfl) (by kernel_rfl) (fun _ _ _ h => h) (Or.inl ⟨by rfl, ?_⟩) (by assumption) ?_
                              rotate_left
                              · intro w hSw; (try dsimp only at hSw); go_simp; (try with_reducible rfl)
                              simp only [Act.put, List.setIfInBounds_toArray, List.set_cons_zero, List.set_cons_succ]
                              refine wpAnyH_ready (rs := [13]) (by kernel_rfl) (by simp) ?_
                              refine AllReadyH.cons (o := { dst := none, op := Op.store 40 (Operand.tmp 109) (Operand.tmp 108), type := 0, pos := "ref.go:56", after := #[{ on := 12, ground := Ground.data }, { on := 11, ground := Ground.data }, { on := 11, ground := Ground.chain }, { on := 0, ground := Ground.phase }, { on := 1, ground := Ground.phase }, { on := 2, ground := Ground.phase }, { on := 3, ground := Ground.phase }, { on := 4, ground := Ground.phase }, { on := 5, ground := Ground.phase }, { on := 6, ground := Ground.phase }, { on := 7, ground := Ground.phase }, { on := 8, ground := Ground.phase }, { on := 9, ground := Ground.phase }, { on := 10, ground := Ground.phase }, { on := 11, ground := Ground.phase }], guard := none }) rfl (fun KK hKK => ?_) AllReadyH.nil
                              go_simp
                              refine hKK.out _ _ trivial (fun hHeld => ?_)
                              clear hKK KK hHeld
                              refine wpAnyH_done (by kernel_rfl) ?_ _
                              have hd := cell_lt d3
                              have HD := hide d3
                              have HTK : Hid (TokCells w1 tb 0 (.slice ra' l.length rc') ⟨4, 0, true, []⟩) := hide ((unhide Q1).of_block ((((unhide HGROW).block tb (Nat.lt_of_lt_of_le q5 (unhide bX _).size) ag)).trans ((unhide bX _).block tb q5)))
                              have HBB : Hid (Below wA.heap.size wA w1) := hide (((unhide Q4).trans ((unhide bX _).mono (unhide Q4).size)).grown (unhide HGROW) (Nat.le_trans (unhide Q4).size (unhide bX _).size) (fun k hk => by have := (ownsRow_lt (unhide Q3) hk).1; omega))
                              have HRL : Hid ((l ++ [((s[i].toNat : Int), (s[jj].toNat : Int))]) ++ rangesL s q G (i + 3) e = rangesL s q (e - (k + 2)) (k + 2) e) := by
                                have h0 := unhide HR
                                rw [rangesL_hit hlie h22 h45] at h0
                                refine hide ?_
                                rw [← h0, sb_eq his, unhide HJ2, sb_eq hjs]
                                simp
                              clear c3 d3
                              go_wp2
                              go_roundw
                              case rel =>
                                refine ⟨i + 3, G, l ++ [((s[i].toNat : Int), (s[jj].toNat : Int))], some ⟨gg, 0, none⟩, cg, ⟨?_, ?_, ?_, ?_⟩, by have := unhide HJ2; go_num, by omega, by simp; omega, by omega, unhide HRL, ?_, (unhide HBB).setCell (p := ⟨tb, 3, none⟩) hwt _⟩
                                · exact (World.cell?_setCell_other _ _ _ _ (addr_ne (.inr (by omega)))).trans (unhide HTK).k0
                                · exact (World.cell?_setCell_other _ _ _ _ (addr_ne (.inr (by omega)))).trans (unhide HTK).k1
                                · exact (World.cell?_setCell_other _ _ _ _ (addr_ne (.inr (by omega)))).trans (unhide HTK).k2
                                · rw [List.length_append]; exact World.cell?_setCell_same _ _ _ (unhide HD)
                                · refine ownsRow_turns (B := tb) (m := 1) ?_ ((Turns.refl tb 1 w1).setCell (p := ⟨tb, 3, none⟩) (by simp) (by simp) _) (Nat.le_refl _)
                                  rw [flatR_snoc, List.length_append]
                                  exact unhide HOWN1
                              case measure => have := unhide HJ2; simp [intOf]; omega
                          · rw [h45] at HC45
                            go_wp2_with fail
                            rw [show ((i : Int) + 1) = ((i + 1 : Nat) : Int) by omega]
                            refine (unhide HC45).mono ?_
                            rintro ee x1 ⟨rfl, hx1⟩
                            have hx2 := hx1.symm
                            subst hx2
                            clear hx1
                            go_wp2_with fail
                            have bX : Hid (∀ o, Below wr.heap.size wr (wr.alloc o).drew) := hide (fun o => ((Below.refl _ wr).alloc (Nat.le_refl _) o).drew)
                            refine wp_region_held_drew (S := fun _ => True) (by kernel_rfl) trivial (fun hHeld => ?_)
                            refine wpAnyH_take (i := 0) (oi := { dst := some 112, op := Op.fieldAddr 42 (Operand.tmp 10) 3, type := 0, pos := "ref.go:59", after := #[], guard := none }) (v := ?_) rfl (by kernel_rfl) (by kernel_rfl) (by kernel_rfl) (fun _ _ _ h => h) (Or.inl ⟨by rfl, ?_⟩) (by assumption) ?_
                            rotate_left
                            · intro w hSw; (try dsimp only at hSw); go_simp; (try with_reducible rfl)
                            simp only [Act.put, List.setIfInBounds_toArray, List.set_cons_zero, List.set_cons_succ]
                            refine wpAnyH_take (i := 2) (oi := { dst := some 114, op := Op.move (Operand.tmp 0), type := 9, pos := "ref.go:59", after := #[], guard := none }) (v := ?_) rfl (by kernel_rfl) (by kernel_rfl) (by kernel_rfl) (fun _ _ _ h => h) (Or.inl ⟨by rfl, ?_⟩) (by assumption) ?_
                            rotate_left
                            · intro w hSw; (try dsimp only at hSw); go_simp; (try with_reducible rfl)
                            simp only [Act.put, List.setIfInBounds_toArray, List.set_cons_zero, List.set_cons_succ]
                            refine wpAnyH_take (i := 3) (oi := { dst := some 115, op := Op.move (Operand.tmp 11), type := 3, pos := "ref.go:59", after := #[], guard := none }) (v := ?_) rfl (by kernel_rfl) (by kernel_rfl) (by kernel_rfl) (fun _ _ _ h => h) (Or.inl ⟨by rfl, ?_⟩) (by assumption) ?_
                            rotate_left
                            · intro w hSw; (try dsimp only at hSw); go_simp; (try with_reducible rfl)
                            simp only [Act.put, List.setIfInBounds_toArray, List.set_cons_zero, List.set_cons_succ]
                            refine wpAnyH_take (i := 4) (oi := { dst := some 116, op := Op.index 9 (Operand.tmp 114) (Operand.tmp 115), type := 5, pos := "ref.go:59", after := #[{ on := 2, ground := Ground.data }, { on := 3, ground := Ground.data }], guard := none }) (v := ?_) rfl (by kernel_rfl) (by kernel_rfl) (by kernel_rfl) (fun _ _ _ h => h) (Or.inl ⟨by rfl, ?_⟩) (by assumption) ?_
                            rotate_left
                            · intro w hSw; (try dsimp only at hSw); go_simp; (try with_reducible rfl)
                            simp only [Act.put, List.setIfInBounds_toArray, List.set_cons_zero, List.set_cons_succ]
                            refine wpAnyH_take (i := 5) (oi := { dst := some 117, op := Op.move (Operand.tmp 0), type := 9, pos := "ref.go:59", after := #[], guard := none }) (v := ?_) rfl (by kernel_rfl) (by kernel_rfl) (by kernel_rfl) (fun _ _ _ h => h) (Or.inl ⟨by rfl, ?_⟩) (by assumption) ?_
                            rotate_left
                            · intro w hSw; (try dsimp only at hSw); go_simp; (try with_reducible rfl)
                            simp only [Act.put, List.setIfInBounds_toArray, List.set_cons_zero, List.set_cons_succ]
                            refine wpAnyH_take (i := 6) (oi := { dst := some 118, op := Op.move (Operand.tmp 11), type := 3, pos := "ref.go:59", after := #[], guard := none }) (v := ?_) rfl (by kernel_rfl) (by kernel_rfl) (by kernel_rfl) (fun _ _ _ h => h) (Or.inl ⟨by rfl, ?_⟩) (by assumption) ?_
                            rotate_left
                            · intro w hSw; (try dsimp only at hSw); go_simp; (try with_reducible rfl)
                            simp only [Act.put, List.setIfInBounds_toArray, List.set_cons_zero, List.set_cons_succ]
                            refine wpAnyH_take (i := 7) (oi := { dst := some 119, op := Op.index 9 (Operand.tmp 117) (Operand.tmp 118), type := 5, pos := "ref.go:59", after := #[{ on := 5, ground := Ground.data }, { on := 6, ground := Ground.data }], guard := none }) (v := ?_) rfl (by kernel_rfl) (by kernel_rfl) (by kernel_rfl) (fun _ _ _ h => h) (Or.inl ⟨by rfl, ?_⟩) (by assumption) ?_
                            rotate_left
                            · intro w hSw; (try dsimp only at hSw); go_simp; (try with_reducible rfl)
                            simp only [Act.put, List.setIfInBounds_toArray, List.set_cons_zero, List.set_cons_succ]
                            refine wpAnyH_take (i := 8) (oi := { dst := some 120, op := Op.build 44 #[(0, Operand.tmp 116), (1, Operand.tmp 119)], type := 44, pos := "ref.go:59", after := #[{ on := 4, ground := Ground.data }, { on := 7, ground := Ground.data }], guard := none }) (v := ?_) rfl (by kernel_rfl) (by kernel_rfl) (by kernel_rfl) (fun _ _ _ h => h) (Or.inl ⟨by rfl, ?_⟩) (by assumption) ?_
                            rotate_left
                            · intro w hSw; (try dsimp only at hSw); go_simp; (try with_reducible rfl)
                            simp only [Act.put, List.setIfInBounds_toArray, List.set_cons_zero, List.set_cons_succ]
                            refine wpAnyH_ready (rs := [1, 9]) (by kernel_rfl) (by simp) ?_
                            refine AllReadyH.cons (o := { dst := some 113, op := Op.load 40 (Operand.tmp 112), type := 40, pos := "ref.go:59", after := #[{ on := 0, ground := Ground.data }], guard := none }) rfl (fun KK hKK => ?_) (AllReadyH.cons (o := { dst := some 121, op := Op.buildSlice 40 1 #[(0, Operand.tmp 120)], type := 40, pos := "ref.go:59", after := #[{ on := 8, ground := Ground.data }], guard := none }) rfl (fun KK hKK => ?_) AllReadyH.nil)
                            · go_simp
                              refine hKK.out _ _ trivial (fun hHeld => ?_)
                              clear hKK KK
                              try simp only [Act.put, List.setIfInBounds_toArray, List.set_cons_zero, List.set_cons_succ]
                              refine wpAnyH_ready (rs := [9]) (by kernel_rfl) (by simp) ?_
                              refine AllReadyH.cons (o := { dst := some 121, op := Op.buildSlice 40 1 #[(0, Operand.tmp 120)], type := 40, pos := "ref.go:59", after := #[{ on := 8, ground := Ground.data }], guard := none }) rfl (fun KK hKK => ?_) AllReadyH.nil
                              go_simp
                              refine hKK.out _ _ trivial (fun hHeld => ?_)
                              clear hKK KK
                              try simp only [Act.put, List.setIfInBounds_toArray, List.set_cons_zero, List.set_cons_succ]
                              refine wpAnyH_ready (rs := [10]) (by kernel_rfl) (by simp) ?_
                              refine AllReadyH.cons (o := { dst := some 122, op := Op.call { callee := Callee.builtin Builtin.append, args := #[Operand.tmp 113, Operand.tmp 121], argTypes := #[40, 40] }, type := 40, pos := "ref.go:59", after := #[{ on := 1, ground := Ground.data }, { on := 9, ground := Ground.data }], guard := none }) rfl (fun KK hKK => ?_) AllReadyH.nil
                              refine step_append_lies _ (by rfl) _ _ _ (by rfl) (tb + 1) 44 i4 _ 2 2 Try.underlying40 h4i h4z h4s h4b rfl (by omega) (.slice ra' l.length rc') l.length (flatR l) (by simp [Act.eval]) (ownsRow_below (unhide Q3) (unhide bX _)) ⟨wr.heap.size, 0, none⟩ 1 1 [.int .u8 (s[i].toNat : Int), .int .u8 (s[i].toNat : Int)] (by simp [Act.eval]) rfl two_cells two_one (by omega) (unhide HM1) (unhide HM2) (le_alloc q5) (wr.heap.size + 1) (by simp) ?_
                              intro gg cg w1 hown1 hgrow hat hlt1
                              have HOWN1 := hide hown1
                              have HGROW := hide hgrow
                              have ag : some tb ≠ (Value.slice ra' l.length rc').ownBlock := fun e => by have := (ownsRow_lt (unhide Q3) e.symm).1; omega
                              have d3 : w1.cell? ⟨tb, 3, none⟩ = some (.slice ra' l.length rc') := ((unhide HGROW).cell_far ⟨tb, 3, none⟩ (Nat.lt_of_lt_of_le q5 (unhide bX _).size) ag).trans (((unhide bX _).cell (p := ⟨tb, 3, none⟩) q5).trans c3)
                              have f3 : w1.frozen? ⟨tb, 3, none⟩ = false := ((unhide HGROW).frozen_far ⟨tb, 3, none⟩ (Nat.lt_of_lt_of_le q5 (unhide bX _).size) ag).trans (((unhide bX _).frozen (p := ⟨tb, 3, none⟩) q5).trans q2)
                              clear hat hown1 hgrow
                              refine hKK.out _ _ trivial (fun hHeld => ?_)
                              clear hKK KK
                              try simp only [Act.put, List.setIfInBounds_toArray, List.set_cons_zero, List.set_cons_succ]
                              refine wpAnyH_take (i := 11) (oi := { dst := some 123, op := Op.fieldAddr 42 (Operand.tmp 10) 3, type := 0, pos := "ref.go:59", after := #[{ on := 0, ground := Ground.phase }, { on := 1, ground := Ground.phase }, { on := 2, ground := Ground.phase }, { on := 3, ground := Ground.phase }, { on := 4, ground := Ground.phase }, { on := 5, ground := Ground.phase }, { on := 6, ground := Ground.phase }, { on := 7, ground := Ground.phase }, { on := 8, ground := Ground.phase }, { on := 9, ground := Ground.phase }, { on := 10, ground := Ground.phase }], guard := none }) (v := ?_) rfl (by kernel_rfl) (by kernel_rfl) (by kernel_rfl) (fun _ _ _ h => h) (Or.inl ⟨by rfl, ?_⟩) (by assumption) ?_
                              rotate_left
                              · intro w hSw; (try dsimp only at hSw); go_simp; (try with_reducible rfl)
                              simp only [Act.put, List.setIfInBounds_toArray, List.set_cons_zero, List.set_cons_succ]
                              refine wpAnyH_ready (rs := [12]) (by kernel_rfl) (by simp) ?_
                              refine AllReadyH.cons (o := { dst := none, op := Op.store 40 (Operand.tmp 123) (Operand.tmp 122), type := 0, pos := "ref.go:59", after := #[{ on := 11, ground := Ground.data }, { on := 10, ground := Ground.data }, { on := 10, ground := Ground.chain }, { on := 0, ground := Ground.phase }, { on := 1, ground := Ground.phase }, { on := 2, ground := Ground.phase }, { on := 3, ground := Ground.phase }, { on := 4, ground := Ground.phase }, { on := 5, ground := Ground.phase }, { on := 6, ground := Ground.phase }, { on := 7, ground := Ground.phase }, { on := 8, ground := Ground.phase }, { on := 9, ground := Ground.phase }, { on := 10, ground := Ground.phase }], guard := none }) rfl (fun KK hKK => ?_) AllReadyH.nil
                              go_simp
                              refine hKK.out _ _ trivial (fun hHeld => ?_)
                              clear hKK KK hHeld
                              refine wpAnyH_done (by kernel_rfl) ?_ _
                              have hd := cell_lt d3
                              have HD := hide d3
                              have HTK : Hid (TokCells w1 tb 0 (.slice ra' l.length rc') ⟨4, 0, true, []⟩) := hide ((unhide Q1).of_block ((((unhide HGROW).block tb (Nat.lt_of_lt_of_le q5 (unhide bX _).size) ag)).trans ((unhide bX _).block tb q5)))
                              have HBB : Hid (Below wA.heap.size wA w1) := hide (((unhide Q4).trans ((unhide bX _).mono (unhide Q4).size)).grown (unhide HGROW) (Nat.le_trans (unhide Q4).size (unhide bX _).size) (fun k hk => by have := (ownsRow_lt (unhide Q3) hk).1; omega))
                              have HRL : Hid ((l ++ [((s[i].toNat : Int), (s[i].toNat : Int))]) ++ rangesL s q G (i + 1) e = rangesL s q (e - (k + 2)) (k + 2) e) := by
                                have h0 := unhide HR
                                rw [rangesL_miss hlie (fun h => by rw [h45] at h; cases h.2)] at h0
                                refine hide ?_
                                rw [← h0, sb_eq his]
                                simp
                              clear c3 d3
                              go_wp2
                              go_roundw
                              case rel =>
                                refine ⟨i + 1, G, l ++ [((s[i].toNat : Int), (s[i].toNat : Int))], some ⟨gg, 0, none⟩, cg, ⟨?_, ?_, ?_, ?_⟩, by go_num, by omega, by simp; omega, by omega, unhide HRL, ?_, (unhide HBB).setCell (p := ⟨tb, 3, none⟩) hwt _⟩
                                · exact (World.cell?_setCell_other _ _ _ _ (addr_ne (.inr (by omega)))).trans (unhide HTK).k0
                                · exact (World.cell?_setCell_other _ _ _ _ (addr_ne (.inr (by omega)))).trans (unhide HTK).k1
                                · exact (World.cell?_setCell_other _ _ _ _ (addr_ne (.inr (by omega)))).trans (unhide HTK).k2
                                · rw [List.length_append]; exact World.cell?_setCell_same _ _ _ (unhide HD)
                                · refine ownsRow_turns (B := tb) (m := 1) ?_ ((Turns.refl tb 1 w1).setCell (p := ⟨tb, 3, none⟩) (by simp) (by simp) _) (Nat.le_refl _)
                                  rw [flatR_snoc, List.length_append]
                                  exact unhide HOWN1
                              case measure => simp [intOf]; omega
                            · go_simp
                              refine hKK.out _ _ trivial (fun hHeld => ?_)
                              clear hKK KK
                              try simp only [Act.put, List.setIfInBounds_toArray, List.set_cons_zero, List.set_cons_succ]
                              have c3A := fun o => ((unhide bX o).cell (p := ⟨tb, 3, none⟩) q5).trans c3
                              refine wpAnyH_ready (rs := [1]) (by kernel_rfl) (by simp) ?_
                              refine AllReadyH.cons (o := { dst := some 113, op := Op.load 40 (Operand.tmp 112), type := 40, pos := "ref.go:59", after := #[{ on := 0, ground := Ground.data }], guard := none }) rfl (fun KK hKK => ?_) AllReadyH.nil
                              go_simp
                              refine hKK.out _ _ trivial (fun hHeld => ?_)
                              clear hKK KK
                              try simp only [Act.put, List.setIfInBounds_toArray, List.set_cons_zero, List.set_cons_succ]
                              refine wpAnyH_ready (rs := [10]) (by kernel_rfl) (by simp) ?_
                              refine AllReadyH.cons (o := { dst := some 122, op := Op.call { callee := Callee.builtin Builtin.append, args := #[Operand.tmp 113, Operand.tmp 121], argTypes := #[40, 40] }, type := 40, pos := "ref.go:59", after := #[{ on := 1, ground := Ground.data }, { on := 9, ground := Ground.data }], guard := none }) rfl (fun KK hKK => ?_) AllReadyH.nil
                              refine step_append_lies _ (by rfl) _ _ _ (by rfl) (tb + 1) 44 i4 _ 2 2 Try.underlying40 h4i h4z h4s h4b rfl (by omega) (.slice ra' l.length rc') l.length (flatR l) (by simp [Act.eval]) (ownsRow_below (unhide Q3) (unhide bX _)) ⟨wr.heap.size, 0, none⟩ 1 1 [.int .u8 (s[i].toNat : Int), .int .u8 (s[i].toNat : Int)] (by simp [Act.eval]) rfl two_cells two_one (by omega) (unhide HM1) (unhide HM2) (le_alloc q5) (wr.heap.size + 1) (by simp) ?_
                              intro gg cg w1 hown1 hgrow hat hlt1
                              have HOWN1 := hide hown1
                              have HGROW := hide hgrow
                              have ag : some tb ≠ (Value.slice ra' l.length rc').ownBlock := fun e => by have := (ownsRow_lt (unhide Q3) e.symm).1; omega
                              have d3 : w1.cell? ⟨tb, 3, none⟩ = some (.slice ra' l.length rc') := ((unhide HGROW).cell_far ⟨tb, 3, none⟩ (Nat.lt_of_lt_of_le q5 (unhide bX _).size) ag).trans (((unhide bX _).cell (p := ⟨tb, 3, none⟩) q5).trans c3)
                              have f3 : w1.frozen? ⟨tb, 3, none⟩ = false := ((unhide HGROW).frozen_far ⟨tb, 3, none⟩ (Nat.lt_of_lt_of_le q5 (unhide bX _).size) ag).trans (((unhide bX _).frozen (p := ⟨tb, 3, none⟩) q5).trans q2)
                              clear hat hown1 hgrow
                              refine hKK.out _ _ trivial (fun hHeld => ?_)
                              clear hKK KK
                              try simp only [Act.put, List.setIfInBounds_toArray, List.set_cons_zero, List.set_cons_succ]
                              refine wpAnyH_take (i := 11) (oi := { dst := some 123, op := Op.fieldAddr 42 (Operand.tmp 10) 3, type := 0, pos := "ref.go:59", after := #[{ on := 0, ground := Ground.phase }, { on := 1, ground := Ground.phase }, { on := 2, ground := Ground.phase }, { on := 3, ground := Ground.phase }, { on := 4, ground := Ground.phase }, { on := 5, ground := Ground.phase }, { on := 6, ground := Ground.phase }, { on := 7, ground := Ground.phase }, { on := 8, ground := Ground.phase }, { on := 9, ground := Ground.phase }, { on := 10, ground := Ground.phase }], guard := none }) (v := ?_) rfl (by kernel_rfl) (by kernel_rfl) (by kernel_rfl) (fun _ _ _ h => h) (Or.inl ⟨by rfl, ?_⟩) (by assumption) ?_
                              rotate_left
                              · intro w hSw; (try dsimp only at hSw); go_simp; (try with_reducible rfl)
                              simp only [Act.put, List.setIfInBounds_toArray, List.set_cons_zero, List.set_cons_succ]
                              refine wpAnyH_ready (rs := [12]) (by kernel_rfl) (by simp) ?_
                              refine AllReadyH.cons (o := { dst := none, op := Op.store 40 (Operand.tmp 123) (Operand.tmp 122), type := 0, pos := "ref.go:59", after := #[{ on := 11, ground := Ground.data }, { on := 10, ground := Ground.data }, { on := 10, ground := Ground.chain }, { on := 0, ground := Ground.phase }, { on := 1, ground := Ground.phase }, { on := 2, ground := Ground.phase }, { on := 3, ground := Ground.phase }, { on := 4, ground := Ground.phase }, { on := 5, ground := Ground.phase }, { on := 6, ground := Ground.phase }, { on := 7, ground := Ground.phase }, { on := 8, ground := Ground.phase }, { on := 9, ground := Ground.phase }, { on := 10, ground := Ground.phase }], guard := none }) rfl (fun KK hKK => ?_) AllReadyH.nil
                              go_simp
                              refine hKK.out _ _ trivial (fun hHeld => ?_)
                              clear hKK KK hHeld
                              refine wpAnyH_done (by kernel_rfl) ?_ _
                              have hd := cell_lt d3
                              have HD := hide d3
                              have HTK : Hid (TokCells w1 tb 0 (.slice ra' l.length rc') ⟨4, 0, true, []⟩) := hide ((unhide Q1).of_block ((((unhide HGROW).block tb (Nat.lt_of_lt_of_le q5 (unhide bX _).size) ag)).trans ((unhide bX _).block tb q5)))
                              have HBB : Hid (Below wA.heap.size wA w1) := hide (((unhide Q4).trans ((unhide bX _).mono (unhide Q4).size)).grown (unhide HGROW) (Nat.le_trans (unhide Q4).size (unhide bX _).size) (fun k hk => by have := (ownsRow_lt (unhide Q3) hk).1; omega))
                              have HRL : Hid ((l ++ [((s[i].toNat : Int), (s[i].toNat : Int))]) ++ rangesL s q G (i + 1) e = rangesL s q (e - (k + 2)) (k + 2) e) := by
                                have h0 := unhide HR
                                rw [rangesL_miss hlie (fun h => by rw [h45] at h; cases h.2)] at h0
                                refine hide ?_
                                rw [← h0, sb_eq his]
                                simp
                              clear c3 d3
                              go_wp2
                              go_roundw
                              case rel =>
                                refine ⟨i + 1, G, l ++ [((s[i].toNat : Int), (s[i].toNat : Int))], some ⟨gg, 0, none⟩, cg, ⟨?_, ?_, ?_, ?_⟩, by go_num, by omega, by simp; omega, by omega, unhide HRL, ?_, (unhide HBB).setCell (p := ⟨tb, 3, none⟩) hwt _⟩
                                · exact (World.cell?_setCell_other _ _ _ _ (addr_ne (.inr (by omega)))).trans (unhide HTK).k0
                                · exact (World.cell?_setCell_other _ _ _ _ (addr_ne (.inr (by omega)))).trans (unhide HTK).k1
                                · exact (World.cell?_setCell_other _ _ _ _ (addr_ne (.inr (by omega)))).trans (unhide HTK).k2
                                · rw [List.length_append]; exact World.cell?_setCell_same _ _ _ (unhide HD)
                                · refine ownsRow_turns (B := tb) (m := 1) ?_ ((Turns.refl tb 1 w1).setCell (p := ⟨tb, 3, none⟩) (by simp) (by simp) _) (Nat.le_refl _)
                                  rw [flatR_snoc, List.length_append]
                                  exact unhide HOWN1
                              case measure => simp [intOf]; omega
                        · have hdn : decide ((i : Int) + 2 < (e : Int)) = false := by rw [decide_eq_false_iff_not]; omega
                          go_wp2_with fail
                          have bX : Hid (∀ o, Below wr.heap.size wr (wr.alloc o).drew) := hide (fun o => ((Below.refl _ wr).alloc (Nat.le_refl _) o).drew)
                          refine wp_region_held_drew (S := fun _ => True) (by kernel_rfl) trivial (fun hHeld => ?_)
                          refine wpAnyH_take (i := 0) (oi := { dst := some 112, op := Op.fieldAddr 42 (Operand.tmp 10) 3, type := 0, pos := "ref.go:59", after := #[], guard := none }) (v := ?_) rfl (by kernel_rfl) (by kernel_rfl) (by kernel_rfl) (fun _ _ _ h => h) (Or.inl ⟨by rfl, ?_⟩) (by assumption) ?_
                          rotate_left
                          · intro w hSw; (try dsimp only at hSw); go_simp; (try with_reducible rfl)
                          simp only [Act.put, List.setIfInBounds_toArray, List.set_cons_zero, List.set_cons_succ]
                          refine wpAnyH_take (i := 2) (oi := { dst := some 114, op := Op.move (Operand.tmp 0), type := 9, pos := "ref.go:59", after := #[], guard := none }) (v := ?_) rfl (by kernel_rfl) (by kernel_rfl) (by kernel_rfl) (fun _ _ _ h => h) (Or.inl ⟨by rfl, ?_⟩) (by assumption) ?_
                          rotate_left
                          · intro w hSw; (try dsimp only at hSw); go_simp; (try with_reducible rfl)
                          simp only [Act.put, List.setIfInBounds_toArray, List.set_cons_zero, List.set_cons_succ]
                          refine wpAnyH_take (i := 3) (oi := { dst := some 115, op := Op.move (Operand.tmp 11), type := 3, pos := "ref.go:59", after := #[], guard := none }) (v := ?_) rfl (by kernel_rfl) (by kernel_rfl) (by kernel_rfl) (fun _ _ _ h => h) (Or.inl ⟨by rfl, ?_⟩) (by assumption) ?_
                          rotate_left
                          · intro w hSw; (try dsimp only at hSw); go_simp; (try with_reducible rfl)
                          simp only [Act.put, List.setIfInBounds_toArray, List.set_cons_zero, List.set_cons_succ]
                          refine wpAnyH_take (i := 4) (oi := { dst := some 116, op := Op.index 9 (Operand.tmp 114) (Operand.tmp 115), type := 5, pos := "ref.go:59", after := #[{ on := 2, ground := Ground.data }, { on := 3, ground := Ground.data }], guard := none }) (v := ?_) rfl (by kernel_rfl) (by kernel_rfl) (by kernel_rfl) (fun _ _ _ h => h) (Or.inl ⟨by rfl, ?_⟩) (by assumption) ?_
                          rotate_left
                          · intro w hSw; (try dsimp only at hSw); go_simp; (try with_reducible rfl)
                          simp only [Act.put, List.setIfInBounds_toArray, List.set_cons_zero, List.set_cons_succ]
                          refine wpAnyH_take (i := 5) (oi := { dst := some 117, op := Op.move (Operand.tmp 0), type := 9, pos := "ref.go:59", after := #[], guard := none }) (v := ?_) rfl (by kernel_rfl) (by kernel_rfl) (by kernel_rfl) (fun _ _ _ h => h) (Or.inl ⟨by rfl, ?_⟩) (by assumption) ?_
                          rotate_left
                          · intro w hSw; (try dsimp only at hSw); go_simp; (try with_reducible rfl)
                          simp only [Act.put, List.setIfInBounds_toArray, List.set_cons_zero, List.set_cons_succ]
                          refine wpAnyH_take (i := 6) (oi := { dst := some 118, op := Op.move (Operand.tmp 11), type := 3, pos := "ref.go:59", after := #[], guard := none }) (v := ?_) rfl (by kernel_rfl) (by kernel_rfl) (by kernel_rfl) (fun _ _ _ h => h) (Or.inl ⟨by rfl, ?_⟩) (by assumption) ?_
                          rotate_left
                          · intro w hSw; (try dsimp only at hSw); go_simp; (try with_reducible rfl)
                          simp only [Act.put, List.setIfInBounds_toArray, List.set_cons_zero, List.set_cons_succ]
                          refine wpAnyH_take (i := 7) (oi := { dst := some 119, op := Op.index 9 (Operand.tmp 117) (Operand.tmp 118), type := 5, pos := "ref.go:59", after := #[{ on := 5, ground := Ground.data }, { on := 6, ground := Ground.data }], guard := none }) (v := ?_) rfl (by kernel_rfl) (by kernel_rfl) (by kernel_rfl) (fun _ _ _ h => h) (Or.inl ⟨by rfl, ?_⟩) (by assumption) ?_
                          rotate_left
                          · intro w hSw; (try dsimp only at hSw); go_simp; (try with_reducible rfl)
                          simp only [Act.put, List.setIfInBounds_toArray, List.set_cons_zero, List.set_cons_succ]
                          refine wpAnyH_take (i := 8) (oi := { dst := some 120, op := Op.build 44 #[(0, Operand.tmp 116), (1, Operand.tmp 119)], type := 44, pos := "ref.go:59", after := #[{ on := 4, ground := Ground.data }, { on := 7, ground := Ground.data }], guard := none }) (v := ?_) rfl (by kernel_rfl) (by kernel_rfl) (by kernel_rfl) (fun _ _ _ h => h) (Or.inl ⟨by rfl, ?_⟩) (by assumption) ?_
                          rotate_left
                          · intro w hSw; (try dsimp only at hSw); go_simp; (try with_reducible rfl)
                          simp only [Act.put, List.setIfInBounds_toArray, List.set_cons_zero, List.set_cons_succ]
                          refine wpAnyH_ready (rs := [1, 9]) (by kernel_rfl) (by simp) ?_
                          refine AllReadyH.cons (o := { dst := some 113, op := Op.load 40 (Operand.tmp 112), type := 40, pos := "ref.go:59", after := #[{ on := 0, ground := Ground.data }], guard := none }) rfl (fun KK hKK => ?_) (AllReadyH.cons (o := { dst := some 121, op := Op.buildSlice 40 1 #[(0, Operand.tmp 120)], type := 40, pos := "ref.go:59", after := #[{ on := 8, ground := Ground.data }], guard := none }) rfl (fun KK hKK => ?_) AllReadyH.nil)
                          · go_simp
                            refine hKK.out _ _ trivial (fun hHeld => ?_)
                            clear hKK KK
                            try simp only [Act.put, List.setIfInBounds_toArray, List.set_cons_zero, List.set_cons_succ]
                            refine wpAnyH_ready (rs := [9]) (by kernel_rfl) (by simp) ?_
                            refine AllReadyH.cons (o := { dst := some 121, op := Op.buildSlice 40 1 #[(0, Operand.tmp 120)], type := 40, pos := "ref.go:59", after := #[{ on := 8, ground := Ground.data }], guard := none }) rfl (fun KK hKK => ?_) AllReadyH.nil
                            go_simp
                            refine hKK.out _ _ trivial (fun hHeld => ?_)
                            clear hKK KK
                            try simp only [Act.put, List.setIfInBounds_toArray, List.set_cons_zero, List.set_cons_succ]
                            refine wpAnyH_ready (rs := [10]) (by kernel_rfl) (by simp) ?_
                            refine AllReadyH.cons (o := { dst := some 122, op := Op.call { callee := Callee.builtin Builtin.append, args := #[Operand.tmp 113, Operand.tmp 121], argTypes := #[40, 40] }, type := 40, pos := "ref.go:59", after := #[{ on := 1, ground := Ground.data }, { on := 9, ground := Ground.data }], guard := none }) rfl (fun KK hKK => ?_) AllReadyH.nil
                            refine step_append_lies _ (by rfl) _ _ _ (by rfl) (tb + 1) 44 i4 _ 2 2 Try.underlying40 h4i h4z h4s h4b rfl (by omega) (.slice ra' l.length rc') l.length (flatR l) (by simp [Act.eval]) (ownsRow_below (unhide Q3) (unhide bX _)) ⟨wr.heap.size, 0, none⟩ 1 1 [.int .u8 (s[i].toNat : Int), .int .u8 (s[i].toNat : Int)] (by simp [Act.eval]) rfl two_cells two_one (by omega) (unhide HM1) (unhide HM2) (le_alloc q5) (wr.heap.size + 1) (by simp) ?_
                            intro gg cg w1 hown1 hgrow hat hlt1
                            have HOWN1 := hide hown1
                            have HGROW := hide hgrow
                            have ag : some tb ≠ (Value.slice ra' l.length rc').ownBlock := fun e => by have := (ownsRow_lt (unhide Q3) e.symm).1; omega
                            have d3 : w1.cell? ⟨tb, 3, none⟩ = some (.slice ra' l.length rc') := ((unhide HGROW).cell_far ⟨tb, 3, none⟩ (Nat.lt_of_lt_of_le q5 (unhide bX _).size) ag).trans (((unhide bX _).cell (p := ⟨tb, 3, none⟩) q5).trans c3)
                            have f3 : w1.frozen? ⟨tb, 3, none⟩ = false := ((unhide HGROW).frozen_far ⟨tb, 3, none⟩ (Nat.lt_of_lt_of_le q5 (unhide bX _).size) ag).trans (((unhide bX _).frozen (p := ⟨tb, 3, none⟩) q5).trans q2)
                            clear hat hown1 hgrow
                            refine hKK.out _ _ trivial (fun hHeld => ?_)
                            clear hKK KK
                            try simp only [Act.put, List.setIfInBounds_toArray, List.set_cons_zero, List.set_cons_succ]
                            refine wpAnyH_take (i := 11) (oi := { dst := some 123, op := Op.fieldAddr 42 (Operand.tmp 10) 3, type := 0, pos := "ref.go:59", after := #[{ on := 0, ground := Ground.phase }, { on := 1, ground := Ground.phase }, { on := 2, ground := Ground.phase }, { on := 3, ground := Ground.phase }, { on := 4, ground := Ground.phase }, { on := 5, ground := Ground.phase }, { on := 6, ground := Ground.phase }, { on := 7, ground := Ground.phase }, { on := 8, ground := Ground.phase }, { on := 9, ground := Ground.phase }, { on := 10, ground := Ground.phase }], guard := none }) (v := ?_) rfl (by kernel_rfl) (by kernel_rfl) (by kernel_rfl) (fun _ _ _ h => h) (Or.inl ⟨by rfl, ?_⟩) (by assumption) ?_
                            rotate_left
                            · intro w hSw; (try dsimp only at hSw); go_simp; (try with_reducible rfl)
                            simp only [Act.put, List.setIfInBounds_toArray, List.set_cons_zero, List.set_cons_succ]
                            refine wpAnyH_ready (rs := [12]) (by kernel_rfl) (by simp) ?_
                            refine AllReadyH.cons (o := { dst := none, op := Op.store 40 (Operand.tmp 123) (Operand.tmp 122), type := 0, pos := "ref.go:59", after := #[{ on := 11, ground := Ground.data }, { on := 10, ground := Ground.data }, { on := 10, ground := Ground.chain }, { on := 0, ground := Ground.phase }, { on := 1, ground := Ground.phase }, { on := 2, ground := Ground.phase }, { on := 3, ground := Ground.phase }, { on := 4, ground := Ground.phase }, { on := 5, ground := Ground.phase }, { on := 6, ground := Ground.phase }, { on := 7, ground := Ground.phase }, { on := 8, ground := Ground.phase }, { on := 9, ground := Ground.phase }, { on := 10, ground := Ground.phase }], guard := none }) rfl (fun KK hKK => ?_) AllReadyH.nil
                            go_simp
                            refine hKK.out _ _ trivial (fun hHeld => ?_)
                            clear hKK KK hHeld
                            refine wpAnyH_done (by kernel_rfl) ?_ _
                            have hd := cell_lt d3
                            have HD := hide d3
                            have HTK : Hid (TokCells w1 tb 0 (.slice ra' l.length rc') ⟨4, 0, true, []⟩) := hide ((unhide Q1).of_block ((((unhide HGROW).block tb (Nat.lt_of_lt_of_le q5 (unhide bX _).size) ag)).trans ((unhide bX _).block tb q5)))
                            have HBB : Hid (Below wA.heap.size wA w1) := hide (((unhide Q4).trans ((unhide bX _).mono (unhide Q4).size)).grown (unhide HGROW) (Nat.le_trans (unhide Q4).size (unhide bX _).size) (fun k hk => by have := (ownsRow_lt (unhide Q3) hk).1; omega))
                            have HRL : Hid ((l ++ [((s[i].toNat : Int), (s[i].toNat : Int))]) ++ rangesL s q G (i + 1) e = rangesL s q (e - (k + 2)) (k + 2) e) := by
                              have h0 := unhide HR
                              rw [rangesL_miss hlie (fun h => h22 h.1)] at h0
                              refine hide ?_
                              rw [← h0, sb_eq his]
                              simp
                            clear c3 d3
                            go_wp2
                            go_roundw
                            case rel =>
                              refine ⟨i + 1, G, l ++ [((s[i].toNat : Int), (s[i].toNat : Int))], some ⟨gg, 0, none⟩, cg, ⟨?_, ?_, ?_, ?_⟩, by go_num, by omega, by simp; omega, by omega, unhide HRL, ?_, (unhide HBB).setCell (p := ⟨tb, 3, none⟩) hwt _⟩
                              · exact (World.cell?_setCell_other _ _ _ _ (addr_ne (.inr (by omega)))).trans (unhide HTK).k0
                              · exact (World.cell?_setCell_other _ _ _ _ (addr_ne (.inr (by omega)))).trans (unhide HTK).k1
                              · exact (World.cell?_setCell_other _ _ _ _ (addr_ne (.inr (by omega)))).trans (unhide HTK).k2
                              · rw [List.length_append]; exact World.cell?_setCell_same _ _ _ (unhide HD)
                              · refine ownsRow_turns (B := tb) (m := 1) ?_ ((Turns.refl tb 1 w1).setCell (p := ⟨tb, 3, none⟩) (by simp) (by simp) _) (Nat.le_refl _)
                                rw [flatR_snoc, List.length_append]
                                exact unhide HOWN1
                            case measure => simp [intOf]; omega
                          · go_simp
                            refine hKK.out _ _ trivial (fun hHeld => ?_)
                            clear hKK KK
                            try simp only [Act.put, List.setIfInBounds_toArray, List.set_cons_zero, List.set_cons_succ]
                            have c3A := fun o => ((unhide bX o).cell (p := ⟨tb, 3, none⟩) q5).trans c3
                            refine wpAnyH_ready (rs := [1]) (by kernel_rfl) (by simp) ?_
                            refine AllReadyH.cons (o := { dst := some 113, op := Op.load 40 (Operand.tmp 112), type := 40, pos := "ref.go:59", after := #[{ on := 0, ground := Ground.data }], guard := none }) rfl (fun KK hKK => ?_) AllReadyH.nil
                            go_simp
                            refine hKK.out _ _ trivial (fun hHeld => ?_)
                            clear hKK KK
                            try simp only [Act.put, List.setIfInBounds_toArray, List.set_cons_zero, List.set_cons_succ]
                            refine wpAnyH_ready (rs := [10]) (by kernel_rfl) (by simp) ?_
                            refine AllReadyH.cons (o := { dst := some 122, op := Op.call { callee := Callee.builtin Builtin.append, args := #[Operand.tmp 113, Operand.tmp 121], argTypes := #[40, 40] }, type := 40, pos := "ref.go:59", after := #[{ on := 1, ground := Ground.data }, { on := 9, ground := Ground.data }], guard := none }) rfl (fun KK hKK => ?_) AllReadyH.nil
                            refine step_append_lies _ (by rfl) _ _ _ (by rfl) (tb + 1) 44 i4 _ 2 2 Try.underlying40 h4i h4z h4s h4b rfl (by omega) (.slice ra' l.length rc') l.length (flatR l) (by simp [Act.eval]) (ownsRow_below (unhide Q3) (unhide bX _)) ⟨wr.heap.size, 0, none⟩ 1 1 [.int .u8 (s[i].toNat : Int), .int .u8 (s[i].toNat : Int)] (by simp [Act.eval]) rfl two_cells two_one (by omega) (unhide HM1) (unhide HM2) (le_alloc q5) (wr.heap.size + 1) (by simp) ?_
                            intro gg cg w1 hown1 hgrow hat hlt1
                            have HOWN1 := hide hown1
                            have HGROW := hide hgrow
                            have ag : some tb ≠ (Value.slice ra' l.length rc').ownBlock := fun e => by have := (ownsRow_lt (unhide Q3) e.symm).1; omega
                            have d3 : w1.cell? ⟨tb, 3, none⟩ = some (.slice ra' l.length rc') := ((unhide HGROW).cell_far ⟨tb, 3, none⟩ (Nat.lt_of_lt_of_le q5 (unhide bX _).size) ag).trans (((unhide bX _).cell (p := ⟨tb, 3, none⟩) q5).trans c3)
                            have f3 : w1.frozen? ⟨tb, 3, none⟩ = false := ((unhide HGROW).frozen_far ⟨tb, 3, none⟩ (Nat.lt_of_lt_of_le q5 (unhide bX _).size) ag).trans (((unhide bX _).frozen (p := ⟨tb, 3, none⟩) q5).trans q2)
                            clear hat hown1 hgrow
                            refine hKK.out _ _ trivial (fun hHeld => ?_)
                            clear hKK KK
                            try simp only [Act.put, List.setIfInBounds_toArray, List.set_cons_zero, List.set_cons_succ]
                            refine wpAnyH_take (i := 11) (oi := { dst := some 123, op := Op.fieldAddr 42 (Operand.tmp 10) 3, type := 0, pos := "ref.go:59", after := #[{ on := 0, ground := Ground.phase }, { on := 1, ground := Ground.phase }, { on := 2, ground := Ground.phase }, { on := 3, ground := Ground.phase }, { on := 4, ground := Ground.phase }, { on := 5, ground := Ground.phase }, { on := 6, ground := Ground.phase }, { on := 7, ground := Ground.phase }, { on := 8, ground := Ground.phase }, { on := 9, ground := Ground.phase }, { on := 10, ground := Ground.phase }], guard := none }) (v := ?_) rfl (by kernel_rfl) (by kernel_rfl) (by kernel_rfl) (fun _ _ _ h => h) (Or.inl ⟨by rfl, ?_⟩) (by assumption) ?_
                            rotate_left
                            · intro w hSw; (try dsimp only at hSw); go_simp; (try with_reducible rfl)
                            simp only [Act.put, List.setIfInBounds_toArray, List.set_cons_zero, List.set_cons_succ]
                            refine wpAnyH_ready (rs := [12]) (by kernel_rfl) (by simp) ?_
                            refine AllReadyH.cons (o := { dst := none, op := Op.store 40 (Operand.tmp 123) (Operand.tmp 122), type := 0, pos := "ref.go:59", after := #[{ on := 11, ground := Ground.data }, { on := 10, ground := Ground.data }, { on := 10, ground := Ground.chain }, { on := 0, ground := Ground.phase }, { on := 1, ground := Ground.phase }, { on := 2, ground := Ground.phase }, { on := 3, ground := Ground.phase }, { on := 4, ground := Ground.phase }, { on := 5, ground := Ground.phase }, { on := 6, ground := Ground.phase }, { on := 7, ground := Ground.phase }, { on := 8, ground := Ground.phase }, { on := 9, ground := Ground.phase }, { on := 10, ground := Ground.phase }], guard := none }) rfl (fun KK hKK => ?_) AllReadyH.nil
                            go_simp
                            refine hKK.out _ _ trivial (fun hHeld => ?_)
                            clear hKK KK hHeld
                            refine wpAnyH_done (by kernel_rfl) ?_ _
                            have hd := cell_lt d3
                            have HD := hide d3
                            have HTK : Hid (TokCells w1 tb 0 (.slice ra' l.length rc') ⟨4, 0, true, []⟩) := hide ((unhide Q1).of_block ((((unhide HGROW).block tb (Nat.lt_of_lt_of_le q5 (unhide bX _).size) ag)).trans ((unhide bX _).block tb q5)))
                            have HBB : Hid (Below wA.heap.size wA w1) := hide (((unhide Q4).trans ((unhide bX _).mono (unhide Q4).size)).grown (unhide HGROW) (Nat.le_trans (unhide Q4).size (unhide bX _).size) (fun k hk => by have := (ownsRow_lt (unhide Q3) hk).1; omega))
                            have HRL : Hid ((l ++ [((s[i].toNat : Int), (s[i].toNat : Int))]) ++ rangesL s q G (i + 1) e = rangesL s q (e - (k + 2)) (k + 2) e) := by
                              have h0 := unhide HR
                              rw [rangesL_miss hlie (fun h => h22 h.1)] at h0
                              refine hide ?_
                              rw [← h0, sb_eq his]
                              simp
                            clear c3 d3
                            go_wp2
                            go_roundw
                            case rel =>
                              refine ⟨i + 1, G, l ++ [((s[i].toNat : Int), (s[i].toNat : Int))], some ⟨gg, 0, none⟩, cg, ⟨?_, ?_, ?_, ?_⟩, by go_num, by omega, by simp; omega, by omega, unhide HRL, ?_, (unhide HBB).setCell (p := ⟨tb, 3, none⟩) hwt _⟩
                              · exact (World.cell?_setCell_other _ _ _ _ (addr_ne (.inr (by omega)))).trans (unhide HTK).k0
                              · exact (World.cell?_setCell_other _ _ _ _ (addr_ne (.inr (by omega)))).trans (unhide HTK).k1
                              · exact (World.cell?_setCell_other _ _ _ _ (addr_ne (.inr (by omega)))).trans (unhide HTK).k2
                              · rw [List.length_append]; exact World.cell?_setCell_same _ _ _ (unhide HD)
                              · refine ownsRow_turns (B := tb) (m := 1) ?_ ((Turns.refl tb 1 w1).setCell (p := ⟨tb, 3, none⟩) (by simp) (by simp) _) (Nat.le_refl _)
                                rw [flatR_snoc, List.length_append]
                                exact unhide HOWN1
                            case measure => simp [intOf]; omega
                      · have hie2 : i = e := by omega
                        have hfin : l = rangesL s q (e - (k + 2)) (k + 2) e := by
                          have h0 := unhide HR
                          have h1 : rangesL s q G i e = [] := by
                            cases G with
                            | zero => rfl
                            | succ G => rw [rangesL, if_neg hlie]
                          rwa [h1, List.append_nil] at h0
                        have HFIN := hide hfin
                        have HPX := hide ((unhide HPJ).below (unhide Q4))
                        have bX : Hid (∀ o, Below wr.heap.size wr (wr.alloc o)) := hide (fun o => (Below.refl _ wr).alloc (Nat.le_refl _) o)
                        have HL4 : Hid (∀ o, w.heap.size ≤ (wr.alloc o).heap.size) := hide (fun o => Nat.le_trans (unhide HBW).size (unhide bX o).size)
                        have HOX : Hid (∀ o, (wr.alloc o).ownsRow w.heap.size 42 4 u5 xs.length (flatV (xs.map valX))) := hide (fun o => ownsRow_below (unhide HPX).own (unhide bX o))
                        obtain ⟨n0, n1, n2, n3⟩ := unhide Q1
                        rw [Nat.zero_add] at n1 n2 n3
                        clear hfin c3
                        go_wp2_with (at_builtin; refine wpList_append_own _ rfl _ _ 24 rfl w.heap.size 42 i2 _ 4 40 Try.underlying24 h2i h2z h2s h2b rfl (by decide) _ _ _ rfl (unhide HOX _) ⟨wr.heap.size, 0, none⟩ 1 1 [.int .i64 4, .int .u8 0, .bool true, .slice ra' l.length rc'] rfl rfl tok_cells four_one (unhide HL1) (unhide HL2) (unhide HL4 _) ?_; intro v' w1 hown' hgrow hnil; have HOWN' := hide hown'; have HGROW := hide hgrow; clear hown' hgrow hnil)
                        go_wp2
                        go_roundw
                        case rel => exact ⟨e + 1, F, xs ++ [((ra', l.length, rc'), ⟨4, 0, true, l⟩)], by go_num, by omega, by omega, by simp; omega, next_eq hlt (by rw [unhide HCUTC, ← unhide HFIN]) (unhide HE), PJ.push ((ra', l.length, rc'), ⟨4, 0, true, l⟩) (unhide HPX) (own_base (unhide Q3) (by omega)) (unhide HOWN') (unhide HGROW)⟩
                        case measure => simp [intOf]; omega
                  · have HCUTD : Hid (cutT s q k = (⟨1, (s[k].toNat : Int), false, []⟩, k + 1)) := hide (by rw [unhide HCUT, h91, if_neg (by simp), sb_eq hlt])
                    rw [h91] at HC91
                    clear h91 hpe
                    go_wp2_with fail
                    refine (unhide HC93).mono ?_
                    rintro ee x1 ⟨rfl, hx1⟩
                    have hx2 := hx1.symm
                    subst hx2
                    clear hx1
                    go_wp2_with fail
                    refine (unhide HC91).mono ?_
                    rintro ee x1 ⟨rfl, hx1⟩
                    have hx2 := hx1.symm
                    subst hx2
                    clear hx1
                    go_wp2_with (at_builtin; refine wpList_append_own _ rfl _ _ 24 rfl w.heap.size 42 i2 _ 4 40 Try.underlying24 h2i h2z h2s h2b rfl (by decide) _ _ _ rfl (unhide HOA _) ⟨wA.heap.size, 0, none⟩ 1 1 [.int .i64 1, .int .u8 (s[k].toNat : Int), .bool false, .slice none 0 0] rfl rfl tok_cells four_one (unhide HL1) (unhide HL2) (unhide HL3 _) ?_; intro v' w1 hown' hgrow hnil; have HOWN' := hide hown'; have HGROW := hide hgrow; clear hown' hgrow hnil)
                    go_wp2
                    go_roundw
                    case rel => exact ⟨k + 1, F, xs ++ [((none, 0, 0), ⟨1, (s[k].toNat : Int), false, []⟩)], by go_num, by omega, by omega, by simp; omega, next_eq hlt (unhide HCUTD) (unhide HE), PJ.push ((none, 0, 0), ⟨1, (s[k].toNat : Int), false, []⟩) (unhide HPJ) (World.ownsRow_nil _ _ _ _) (unhide HOWN') (unhide HGROW)⟩
                    case measure => simp [intOf]; omega
                · rw [hpe] at HC93
                  have HN : Hid (findFrom (fun j => plainF s q j 93) s.size (s.size - (e + 1)) (e + 1) = classEnd s q (k + 2)) := hide (by rw [← findFrom_next hes hpe]; exact unhide HFE)
                  clear hpe
                  go_wp2_with fail
                  refine (unhide HC93).mono ?_
                  rintro ee x1 ⟨rfl, hx1⟩
                  have hx2 := hx1.symm
                  subst hx2
                  clear hx1
                  go_wp2
                  go_round
                  case rel => exact ⟨e + 1, by go_num, by omega, by omega, unhide HN⟩
                  case measure => simp [intOf]; omega
              · have hel : decide ((e : Int) < (s.size : Int)) = false := by rw [decide_eq_false_iff_not]; omega
                have heg : (s.size : Int) ≤ (e : Int) := by omega
                have HCE : Hid (classEnd s q (k + 2) = s.size) := hide (by rw [← unhide HFE]; exact findFrom_out (by omega))
                have HCUTD : Hid (cutT s q k = (⟨1, (s[k].toNat : Int), false, []⟩, k + 1)) := hide (by rw [unhide HCUT, unhide HCE, if_neg (by simp), sb_eq hlt])
                rcases Bool.eq_false_or_eq_true (plainF s q k 91) with h91 | h91
                all_goals
                  rw [h91] at HC91
                  clear h91
                  go_wp2_with fail
                  refine (unhide HC91).mono ?_
                  rintro ee x1 ⟨rfl, hx1⟩
                  have hx2 := hx1.symm
                  subst hx2
                  clear hx1
                  go_wp2_with (at_builtin; refine wpList_append_own _ rfl _ _ 24 rfl w.heap.size 42 i2 _ 4 40 Try.underlying24 h2i h2z h2s h2b rfl (by decide) _ _ _ rfl (unhide HOA _) ⟨wA.heap.size, 0, none⟩ 1 1 [.int .i64 1, .int .u8 (s[k].toNat : Int), .bool false, .slice none 0 0] rfl rfl tok_cells four_one (unhide HL1) (unhide HL2) (unhide HL3 _) ?_; intro v' w1 hown' hgrow hnil; have HOWN' := hide hown'; have HGROW := hide hgrow; clear hown' hgrow hnil)
                  go_wp2
                  go_roundw
                  case rel => exact ⟨k + 1, F, xs ++ [((none, 0, 0), ⟨1, (s[k].toNat : Int), false, []⟩)], by go_num, by omega, by omega, by simp; omega, next_eq hlt (unhide HCUTD) (unhide HE), PJ.push ((none, 0, 0), ⟨1, (s[k].toNat : Int), false, []⟩) (unhide HPJ) (World.ownsRow_nil _ _ _ _) (unhide HOWN') (unhide HGROW)⟩
                  case measure => simp [intOf]; omega
    · have hke : k = s.size := by omega
      have hfin : xs.map (·.2) = parseL s q := by
        have := unhide HE
        have e : parseN s q F k = [] := by
          cases F with
          | zero => rfl
          | succ F => rw [parseN, if_neg hlt]
        rwa [e, List.append_nil] at this
      have HFIN := hide hfin
      clear hfin
      go_wp2
      go_ret
      refine ⟨_, rfl, ?_, (unhide HPJ).bel⟩
      have h1 := pj_row (unhide HPJ)
      rw [unhide HFIN] at h1
      exact h1

end Go.Proofs.Ytegaonlpbcpobaa

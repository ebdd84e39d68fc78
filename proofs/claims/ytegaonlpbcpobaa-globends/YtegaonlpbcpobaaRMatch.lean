/-
  The contract of the document's 'Match'.
-/
import Derived.Test.YtegaonlpbcpobaaRPlain
import Derived.Deep.RegionHeld3
namespace Go.Proofs.Ytegaonlpbcpobaa
open Go.RowKit

theorem below_cell {W W' : World} {p : Addr} {v : Value} (hb : Below W.heap.size W W') (h : W.cell? p = some v) : W'.cell? p = some v := (hb.cell (cell_lt h)).trans h

set_option maxHeartbeats 60000000 in
theorem rmatch_any (n₀ : Nat) (v : Value) (s : ByteArray) (ts : List Tok) (w : World) (hs : s.size ≤ 100000) (hrow : TokRow n₀ w v ts) (hn₀ : n₀ ≤ w.heap.size) :
    Calls Try.prog 16 #[v, .string s] w fun e w' => e = .returned (.bool (matchB s ts)) ∧ Below w.heap.size w w' := by
  have HROW := hide hrow
  obtain ⟨a, cap, rfl, hmax⟩ := hrow.shape
  have hmk := fun w => mk_any w s.size hs
  clear hrow
  have hh : (w.alloc (.cells (made (s.size + 1)) 4)).heap[w.heap.size]? = some (.cells (made (s.size + 1)) 4) := heap_new w _
  have cn := (made_bools hh) s.size (by omega)
  have fn := (free_new hh) s.size
  rw [Nat.zero_add] at cn
  have HHH := hide hh
  clear hh
  go_enter Try.func16, Try.ntmps16
  go_wp2_with fail
  obtain ⟨g, hg⟩ : ∃ x, x = w.heap.size := ⟨_, rfl⟩
  rw [← hg]
  obtain ⟨W1, hW1⟩ : ∃ X, X = w.alloc (.cells ((made (s.size + 1)).setIfInBounds s.size (.bool true)) 4) := ⟨_, rfl⟩
  rw [← hW1]
  have hB1 : Below w.heap.size w W1 := by rw [hW1]; exact (Below.refl _ w).alloc (Nat.le_refl _) _
  have hR1 : BoolsAt W1 g 0 (s.size + 1) (RF s []) := by
    intro j hj
    have hnew : W1.heap[g]? = some (.cells ((made (s.size + 1)).setIfInBounds s.size (.bool true)) 4) := by rw [hW1, hg]; exact heap_new w _
    rw [RF_nil s j (by omega), Nat.zero_add]
    unfold World.cell?
    simp only [hnew]
    show ((made (s.size + 1)).setIfInBounds s.size (.bool true))[j]? = _
    rw [Array.getElem?_setIfInBounds]
    by_cases e : s.size = j
    · subst e
      rw [if_pos rfl, if_pos (by rw [made_size]; omega)]
      simp
    · rw [if_neg e, made_get _ _ hj]
      have : (j == s.size) = false := by rw [beq_eq_false_iff_ne]; omega
      rw [this]
  have hgs : g < W1.heap.size := by rw [hW1, hg]; simp
  have hg1 : w.heap.size ≤ g := by omega
  have HR1 := hide hR1
  have HB1 := hide hB1
  clear hR1 hB1 hW1 hg cn fn HHH
  go_loopw [5, 6] (fun r k wr => ∃ (K g : Nat), K ≤ ts.length ∧ k = .int .i64 ((K : Int) - 1) ∧ r = .slice (some ⟨g, 0, none⟩) (s.size + 1) (s.size + 1) ∧ BoolsAt wr g 0 (s.size + 1) (RF s (ts.drop K)) ∧ w.heap.size ≤ g ∧ g < wr.heap.size ∧ Below w.heap.size w wr) (fun _ k _ => ((intOf k) + 1).toNat)
  case atStart => exact ⟨ts.length, g, Nat.le_refl _, rfl, rfl, by rw [List.drop_length]; exact unhide HR1, hg1, hgs, unhide HB1⟩
  case round =>
    clear HR1 HB1 hgs hg1
    obtain ⟨K, g, hK, rfl, rfl, r1, r2, r3, r4⟩ := hrel
    have R1 := hide r1
    have R4 := hide r4
    match K, hK, R1 with
    | 0, _, R1 =>
      have c0 := r1 0 (by omega)
      have e0 : RF s (ts.drop 0) 0 = matchB s ts := by rw [List.drop_zero, RF_zero]
      rw [e0] at c0
      clear r1 r4
      go_wp2
      go_ret
      exact ⟨rfl, unhide R4⟩
    | K + 1, hK, R1 =>
      have eK : (((K + 1 : Nat) : Int) - 1) = (K : Int) := by omega
      rw [eK]
      obtain ⟨b, o, ra, rc, rfl, hb, ht, hm⟩ := (unhide HROW).tok (k := K) (by omega)
      have hbw : b < w.heap.size := ht.toTokCells.lt
      have hds : ts.drop K = ts[K] :: ts.drop (K + 1) := List.drop_eq_getElem_cons (by omega)
      obtain ⟨t, hteq⟩ : ∃ t, t = ts[K] := ⟨_, rfl⟩
      rw [← hteq] at ht hds hm
      obtain ⟨wA, hwA⟩ : ∃ x, x = wr := ⟨_, rfl⟩
      subst hwA
      have HT := hide ht
      have HDS := hide hds
      clear r1 r4 ht hds eK hteq
      go_wp2_with fail
      obtain ⟨h, hh⟩ : ∃ x, x = wA.heap.size := ⟨_, rfl⟩
      rw [← hh]
      obtain ⟨W2, hW2⟩ : ∃ X, X = wA.alloc (.cells (made (s.size + 1)) 4) := ⟨_, rfl⟩
      rw [← hW2]
      have hnew : W2.heap[h]? = some (.cells (made (s.size + 1)) 4) := by rw [hW2, hh]; exact heap_new wA _
      have hB2 : Below w.heap.size w W2 := by rw [hW2]; exact (unhide R4).alloc (unhide R4).size _
      have hR2 : BoolsAt W2 g 0 (s.size + 1) (RF s (ts.drop (K + 1))) := by rw [hW2]; exact (unhide R1).of_block (Below.heap_alloc _ _ _ r3)
      have hM := made_bools hnew
      have HM : Hid (RowFrom W2 h (s.size + 1) (s.size + 1) (RF s (ts.drop K))) := hide ⟨fun j h1 h2 => absurd h2 (by omega), fun j hj => ⟨_, hM j hj⟩⟩
      have HF := hide (free_new hnew)
      have HB2 := hide hB2
      have HR2 := hide hR2
      have hhg : h ≠ g := by omega
      have hh1 : w.heap.size ≤ h := by have := (unhide R4).size; omega
      have hh2 : h < W2.heap.size := by rw [hW2]; simp; omega
      have hg2 : g < W2.heap.size := by rw [hW2]; simp; omega
      clear hnew hB2 hR2 hM hW2 hh R1 R4
      have HTW : Hid (RowR n₀ w (.slice ra t.rs.length rc) t.rs) := hide (unhide HT).row
      by_cases hk3 : t.kind = 3
      · go_loopw [8] (fun i w2 => ∃ (I : Nat), I ≤ s.size + 1 ∧ i = .int .i64 ((I : Int) - 1) ∧ RowFrom w2 h I (s.size + 1) (RF s (ts.drop K)) ∧ FreeAt w2 h ∧ BoolsAt w2 g 0 (s.size + 1) (RF s (ts.drop (K + 1))) ∧ Below w.heap.size w w2 ∧ h < w2.heap.size ∧ g < w2.heap.size) (fun i _ => ((intOf i) + 1).toNat)
        case atStart => exact ⟨s.size + 1, Nat.le_refl _, by go_num, unhide HM, unhide HF, unhide HR2, unhide HB2, hh2, hg2⟩
        case round =>
          obtain ⟨I, hI, rfl, q1, q2, q3, q4, q5, q6⟩ := hrel
          have Q1 := hide q1
          have Q2 := hide q2
          have Q3 := hide q3
          have Q4 := hide q4
          obtain ⟨k0, k1, k2, k3⟩ := (unhide HT).toTokCells.of_block (q4.block _ hbw)
          rw [hk3] at k0
          match I, hI, Q1 with
          | 0, _, Q1 =>
            have hall : BoolsAt wr h 0 (s.size + 1) (RF s (ts.drop K)) := fun j hj => q1.1 j (Nat.zero_le _) hj
            have HALL := hide hall
            clear q1 q2 q3 q4 hall
            go_wp2
            go_roundw
            case rel => exact ⟨K, h, by omega, by go_num, rfl, unhide HALL, hh1, q5, unhide Q4⟩
            case measure => simp [intOf]
          | J + 1, hI, Q1 =>
            have eJ : (((J + 1 : Nat) : Int) - 1) = (J : Int) := by omega
            rw [eJ]
            obtain ⟨x, hx⟩ := (unhide Q1).2 J (by omega)
            rw [Nat.zero_add] at hx
            have hz := q2 J
            have hr := q3 J (by omega)
            rw [Nat.zero_add] at hr
            clear q1 q2 q3 q4 eJ
            rcases Bool.eq_false_or_eq_true (RF s (ts.drop (K + 1)) J) with hv | hv
            · rw [hv] at hr
              go_wp2
              go_roundw
              case rel =>
                refine ⟨J, by omega, by go_num, (unhide Q1).put ?_, free_put (unhide Q2), (unhide Q3).of_block (Below.heap_setCell _ _ _ _ (by simp; omega)), (unhide Q4).setCell (p := ⟨h, J, none⟩) hh1 _, by simpa using q5, by simpa using q6⟩
                rw [unhide HDS]
                by_cases hJ : J < s.size
                · rw [RF_many s t _ hk3 J hJ, hv]; rfl
                · have : J = s.size := by omega
                  subst this
                  rw [RF_many_end s t _ hk3, hv]
              case measure => simp [intOf]
            · rw [hv] at hr
              by_cases hJ : J < s.size
              · have hnx := (unhide Q1).1 (J + 1) (by omega) (by omega)
                rw [Nat.zero_add] at hnx
                obtain ⟨y, hy⟩ : ∃ y, y = RF s (ts.drop K) (J + 1) := ⟨_, rfl⟩
                rw [← hy] at hnx
                have HY := hide hy
                clear hy
                go_wp2
                go_roundw
                case rel =>
                  refine ⟨J, by omega, by go_num, (unhide Q1).put ?_, free_put (unhide Q2), (unhide Q3).of_block (Below.heap_setCell _ _ _ _ (by simp; omega)), (unhide Q4).setCell (p := ⟨h, J, none⟩) hh1 _, by simpa using q5, by simpa using q6⟩
                  have e := unhide HY
                  rw [unhide HDS] at e ⊢
                  rw [RF_many s t _ hk3 J hJ, hv, ← e]; simp
                case measure => simp [intOf]
              · have hdn : decide ((J : Int) < (s.size : Int)) = false := by rw [decide_eq_false_iff_not]; omega
                have HJE : Hid (J = s.size) := hide (by omega)
                go_wp2
                go_roundw
                case rel =>
                  refine ⟨J, by omega, by go_num, (unhide Q1).put ?_, free_put (unhide Q2), (unhide Q3).of_block (Below.heap_setCell _ _ _ _ (by simp; omega)), (unhide Q4).setCell (p := ⟨h, J, none⟩) hh1 _, by simpa using q5, by simpa using q6⟩
                  have hJe := unhide HJE
                  rw [unhide HDS]
                  subst hJe
                  rw [RF_many_end s t _ hk3, hv]
                case measure => simp [intOf]
      · have hk3b : (t.kind == 3) = false := by rw [beq_eq_false_iff_ne]; exact hk3
        go_loopw [8] (fun i w2 => ∃ (I : Nat), I ≤ s.size + 1 ∧ i = .int .i64 ((I : Int) - 1) ∧ RowFrom w2 h I (s.size + 1) (RF s (ts.drop K)) ∧ FreeAt w2 h ∧ BoolsAt w2 g 0 (s.size + 1) (RF s (ts.drop (K + 1))) ∧ Below w.heap.size w w2 ∧ h < w2.heap.size ∧ g < w2.heap.size) (fun i _ => ((intOf i) + 1).toNat)
        case atStart => exact ⟨s.size + 1, Nat.le_refl _, by go_num, unhide HM, unhide HF, unhide HR2, unhide HB2, hh2, hg2⟩
        case round =>
          obtain ⟨I, hI, rfl, q1, q2, q3, q4, q5, q6⟩ := hrel
          have Q1 := hide q1
          have Q2 := hide q2
          have Q3 := hide q3
          have Q4 := hide q4
          obtain ⟨k0, k1, k2, k3⟩ := (unhide HT).toTokCells.of_block (q4.block _ hbw)
          match I, hI, Q1 with
          | 0, _, Q1 =>
            have hall : BoolsAt wr h 0 (s.size + 1) (RF s (ts.drop K)) := fun j hj => q1.1 j (Nat.zero_le _) hj
            have HALL := hide hall
            clear q1 q2 q3 q4 hall
            go_wp2
            go_roundw
            case rel => exact ⟨K, h, by omega, by go_num, rfl, unhide HALL, hh1, q5, unhide Q4⟩
            case measure => simp [intOf]
          | J + 1, hI, Q1 =>
            have eJ : (((J + 1 : Nat) : Int) - 1) = (J : Int) := by omega
            rw [eJ]
            obtain ⟨x, hx⟩ := (unhide Q1).2 J (by omega)
            rw [Nat.zero_add] at hx
            have hz := q2 J
            by_cases hJ : J < s.size
            · have hr := q3 (J + 1) (by omega)
              rw [Nat.zero_add] at hr
              have hbwr : b < wr.heap.size := by have := q4.size; omega
              have hsb : sb s J = (s[J].toNat : Int) := sb_eq hJ
              have HGJ : Hid (RF s (ts.drop K) J = (fitsB t (sb s J) && RF s (ts.drop (K + 1)) (J + 1))) := hide (by rw [unhide HDS]; exact RF_one s t _ hk3 J hJ)
              obtain ⟨y, hy⟩ : ∃ y, y = RF s (ts.drop (K + 1)) (J + 1) := ⟨_, rfl⟩
              rw [← hy] at hr HGJ
              clear q1 q2 q3 eJ hy
              have HB4 := hide q4
              clear q4
              have l1 : (J : Int) < (s.size : Int) := by omega
              have l0 : (0 : Int) ≤ (J : Int) := by omega
              have l2 : (K : Int) < (ts.length : Int) := by omega
              have l3 : (0 : Int) ≤ (K : Int) := by omega
              have l4 : (0 : Int) ≤ (J : Int) + 1 := by omega
              have l5 : (J : Int) + 1 < (s.size : Int) + 1 := by omega
              have l6 : (J : Int) < (s.size : Int) + 1 := by omega
              have hb0 : Below w.heap.size w wr.drew := (unhide HB4).drew
              have l7 : IntKind.i64.wrap ((J : Int) + 1) = (J : Int) + 1 := by rw [IntKind.wrap_i64]; omega
              have l8 : ((J : Int) + 1).toNat = J + 1 := by omega
              have hbh : ¬ b = h := by omega
              have hgh : ¬ g = h := by omega
              rcases Bool.eq_false_or_eq_true (fitsB t (sb s J)) with fv | fv
              · have HC : Hid (∀ w', Below w.heap.size w w' → Calls Try.prog 25 #[.agg #[.int .i64 t.kind, .int .u8 t.c, .bool t.nt, .slice ra t.rs.length rc], .int .u8 (s[J].toNat : Int)] w' fun e w'' => e = .returned (.bool true) ∧ Below w'.heap.size w' w'') := hide (fun w' hb => by
                  have := rfits_any n₀ t ra rc (s[J].toNat : Int) w' ((unhide HTW).below (hb.mono hn₀)) (by have := hb.size; omega)
                  rw [← hsb, fv, hsb] at this
                  exact this)
                rw [fv] at HGJ
                clear hsb fv
                go_wp2_with fail
                go_region_held3 (fun w' => w'.cell? ⟨b, o + K * 4, none⟩ = some (.int .i64 t.kind) ∧ w'.cell? ⟨b, o + K * 4 + 1, none⟩ = some (.int .u8 t.c) ∧ w'.cell? ⟨b, o + K * 4 + 2, none⟩ = some (.bool t.nt) ∧ w'.cell? ⟨b, o + K * 4 + 3, none⟩ = some (.slice ra t.rs.length rc) ∧ w'.cell? ⟨g, J + 1, none⟩ = some (.bool y) ∧ Below w.heap.size w w') (first | exact ⟨k0, k1, k2, k3, hr, (unhide HB4).drew⟩ | exact ⟨z1, z2, z3, z4, z5, z8⟩ | exact ⟨y1 _, y2 _, y3 _, y4 _, y5 _, y8 _⟩ | exact ⟨z1, z2, z3, z4, z5, y8 _⟩)
                  (first | (go_at_call 25; refine ((unhide HC) _ hb0).mono ?_; rintro e w1 ⟨rfl, b1⟩; have z1 : w1.cell? ⟨b, o + K * 4, none⟩ = some (.int .i64 t.kind) := below_cell b1 k0; have z2 : w1.cell? ⟨b, o + K * 4 + 1, none⟩ = some (.int .u8 t.c) := below_cell b1 k1; have z3 : w1.cell? ⟨b, o + K * 4 + 2, none⟩ = some (.bool t.nt) := below_cell b1 k2; have z4 : w1.cell? ⟨b, o + K * 4 + 3, none⟩ = some (.slice ra t.rs.length rc) := below_cell b1 k3; have z5 : w1.cell? ⟨g, J + 1, none⟩ = some (.bool y) := below_cell b1 hr; have z6 : w1.cell? ⟨h, J, none⟩ = some (.bool x) := (b1.cell (p := ⟨h, J, none⟩) q5).trans hx; have z7 : w1.frozen? ⟨h, J, none⟩ = false := (b1.frozen (p := ⟨h, J, none⟩) q5).trans hz; have z8 : Below w.heap.size w w1 := hb0.trans (b1.mono hb0.size); have y1 := fun u => (World.cell?_setCell_other w1 ⟨h, J, none⟩ ⟨b, o + K * 4, none⟩ u (addr_ne (.inl (Ne.symm hbh)))).trans z1; have y2 := fun u => (World.cell?_setCell_other w1 ⟨h, J, none⟩ ⟨b, o + K * 4 + 1, none⟩ u (addr_ne (.inl (Ne.symm hbh)))).trans z2; have y3 := fun u => (World.cell?_setCell_other w1 ⟨h, J, none⟩ ⟨b, o + K * 4 + 2, none⟩ u (addr_ne (.inl (Ne.symm hbh)))).trans z3; have y4 := fun u => (World.cell?_setCell_other w1 ⟨h, J, none⟩ ⟨b, o + K * 4 + 3, none⟩ u (addr_ne (.inl (Ne.symm hbh)))).trans z4; have y5 := fun u => (World.cell?_setCell_other w1 ⟨h, J, none⟩ ⟨g, J + 1, none⟩ u (addr_ne (.inl (Ne.symm hgh)))).trans z5; have y8 := fun u => z8.setCell (p := ⟨h, J, none⟩) hh1 u))
                all_goals
                  have hs1 := b1.size
                  go_wp2
                  go_roundw
                  case rel =>
                    have b1' := below_drew b1
                    refine ⟨J, by omega, by go_num, ((unhide Q1).of_block (b1'.block _ q5)).put (by rw [unhide HGJ]; simp), free_put ((unhide Q2).of_block (b1'.block _ q5)), ((unhide Q3).of_block (b1'.block _ q6)).of_block (Below.heap_setCell _ _ _ _ (by simp; omega)), y8 _, by simp; simp at hs1; omega, by simp; simp at hs1; omega⟩
                  case measure => simp [intOf]
              · have HC : Hid (∀ w', Below w.heap.size w w' → Calls Try.prog 25 #[.agg #[.int .i64 t.kind, .int .u8 t.c, .bool t.nt, .slice ra t.rs.length rc], .int .u8 (s[J].toNat : Int)] w' fun e w'' => e = .returned (.bool false) ∧ Below w'.heap.size w' w'') := hide (fun w' hb => by
                  have := rfits_any n₀ t ra rc (s[J].toNat : Int) w' ((unhide HTW).below (hb.mono hn₀)) (by have := hb.size; omega)
                  rw [← hsb, fv, hsb] at this
                  exact this)
                rw [fv] at HGJ
                clear hsb fv
                go_wp2_with fail
                refine wp_region_held_drew (S := (fun w' => w'.cell? ⟨b, o + K * 4, none⟩ = some (.int .i64 t.kind) ∧ w'.cell? ⟨b, o + K * 4 + 1, none⟩ = some (.int .u8 t.c) ∧ w'.cell? ⟨b, o + K * 4 + 2, none⟩ = some (.bool t.nt) ∧ w'.cell? ⟨b, o + K * 4 + 3, none⟩ = some (.slice ra t.rs.length rc) ∧ w'.cell? ⟨g, J + 1, none⟩ = some (.bool y) ∧ Below w.heap.size w w')) (by kernel_rfl) ⟨k0, k1, k2, k3, hr, hb0⟩ (fun hHeld => ?_)
                refine wpAnyH_take (i := 0) (oi := { dst := some 60, op := Op.move (Operand.tmp 7), type := 22, pos := "ref.go:96", after := #[], guard := none }) (v := ?_) rfl (by kernel_rfl) (by kernel_rfl) (by kernel_rfl) (fun _ _ _ h => h) (Or.inl ⟨by rfl, ?_⟩) (by assumption) ?_
                rotate_left
                · intro w hSw; (try dsimp only at hSw); go_simp; (try with_reducible rfl)
                simp only [Act.put, List.setIfInBounds_toArray, List.set_cons_zero, List.set_cons_succ]
                refine wpAnyH_take (i := 1) (oi := { dst := some 61, op := Op.move (Operand.tmp 8), type := 3, pos := "ref.go:96", after := #[], guard := none }) (v := ?_) rfl (by kernel_rfl) (by kernel_rfl) (by kernel_rfl) (fun _ _ _ h => h) (Or.inl ⟨by rfl, ?_⟩) (by assumption) ?_
                rotate_left
                · intro w hSw; (try dsimp only at hSw); go_simp; (try with_reducible rfl)
                simp only [Act.put, List.setIfInBounds_toArray, List.set_cons_zero, List.set_cons_succ]
                refine wpAnyH_take (i := 2) (oi := { dst := some 62, op := Op.move (Operand.tmp 8), type := 3, pos := "ref.go:96", after := #[], guard := none }) (v := ?_) rfl (by kernel_rfl) (by kernel_rfl) (by kernel_rfl) (fun _ _ _ h => h) (Or.inl ⟨by rfl, ?_⟩) (by assumption) ?_
                rotate_left
                · intro w hSw; (try dsimp only at hSw); go_simp; (try with_reducible rfl)
                simp only [Act.put, List.setIfInBounds_toArray, List.set_cons_zero, List.set_cons_succ]
                refine wpAnyH_take (i := 3) (oi := { dst := some 63, op := Op.move (Operand.tmp 1), type := 9, pos := "ref.go:96", after := #[], guard := none }) (v := ?_) rfl (by kernel_rfl) (by kernel_rfl) (by kernel_rfl) (fun _ _ _ h => h) (Or.inl ⟨by rfl, ?_⟩) (by assumption) ?_
                rotate_left
                · intro w hSw; (try dsimp only at hSw); go_simp; (try with_reducible rfl)
                simp only [Act.put, List.setIfInBounds_toArray, List.set_cons_zero, List.set_cons_succ]
                refine wpAnyH_take (i := 4) (oi := { dst := some 64, op := Op.call { callee := Callee.builtin Builtin.len, args := #[Operand.tmp 63], argTypes := #[9] }, type := 3, pos := "ref.go:96", after := #[{ on := 3, ground := Ground.data }], guard := none }) (v := ?_) rfl (by kernel_rfl) (by kernel_rfl) (by kernel_rfl) (fun _ _ _ h => h) (Or.inl ⟨by rfl, ?_⟩) (by assumption) ?_
                rotate_left
                · intro w hSw; (try dsimp only at hSw); go_simp; (try with_reducible rfl)
                simp only [Act.put, List.setIfInBounds_toArray, List.set_cons_zero, List.set_cons_succ]
                refine wpAnyH_take (i := 5) (oi := { dst := some 65, op := Op.binOp BinOp.lss 3 (Operand.tmp 62) (Operand.tmp 64) 3, type := 4, pos := "ref.go:96", after := #[{ on := 2, ground := Ground.data }, { on := 4, ground := Ground.data }], guard := none }) (v := ?_) rfl (by kernel_rfl) (by kernel_rfl) (by kernel_rfl) (fun _ _ _ h => h) (Or.inl ⟨by rfl, ?_⟩) (by assumption) ?_
                rotate_left
                · intro w hSw; (try dsimp only at hSw); go_simp; (try with_reducible rfl)
                simp only [Act.put, List.setIfInBounds_toArray, List.set_cons_zero, List.set_cons_succ]
                refine wpAnyH_take (i := 6) (oi := { dst := some 66, op := Op.move (Operand.tmp 65), type := 4, pos := "ref.go:96", after := #[{ on := 5, ground := Ground.data }], guard := none }) (v := ?_) rfl (by kernel_rfl) (by kernel_rfl) (by kernel_rfl) (fun _ _ _ h => h) (Or.inl ⟨by rfl, ?_⟩) (by assumption) ?_
                rotate_left
                · intro w hSw; (try dsimp only at hSw); go_simp; (try with_reducible rfl)
                simp only [Act.put, List.setIfInBounds_toArray, List.set_cons_zero, List.set_cons_succ]
                refine wpAnyH_take (i := 7) (oi := { dst := some 67, op := Op.move (Operand.tmp 0), type := 24, pos := "ref.go:96", after := #[{ on := 6, ground := Ground.guard }], guard := some (6, true) }) (v := ?_) rfl (by kernel_rfl) (by kernel_rfl) (by kernel_rfl) (fun _ _ _ h => h) (Or.inl ⟨by rfl, ?_⟩) (by assumption) ?_
                rotate_left
                · intro w hSw; (try dsimp only at hSw); go_simp; (try with_reducible rfl)
                simp only [Act.put, List.setIfInBounds_toArray, List.set_cons_zero, List.set_cons_succ]
                refine wpAnyH_take (i := 8) (oi := { dst := some 68, op := Op.move (Operand.tmp 6), type := 3, pos := "ref.go:96", after := #[{ on := 6, ground := Ground.guard }], guard := some (6, true) }) (v := ?_) rfl (by kernel_rfl) (by kernel_rfl) (by kernel_rfl) (fun _ _ _ h => h) (Or.inl ⟨by rfl, ?_⟩) (by assumption) ?_
                rotate_left
                · intro w hSw; (try dsimp only at hSw); go_simp; (try with_reducible rfl)
                simp only [Act.put, List.setIfInBounds_toArray, List.set_cons_zero, List.set_cons_succ]
                refine wpAnyH_take (i := 9) (oi := { dst := some 69, op := Op.indexAddr 24 (Operand.tmp 67) (Operand.tmp 68), type := 0, pos := "ref.go:96", after := #[{ on := 7, ground := Ground.data }, { on := 8, ground := Ground.data }, { on := 6, ground := Ground.guard }], guard := some (6, true) }) (v := ?_) rfl (by kernel_rfl) (by kernel_rfl) (by kernel_rfl) (fun _ _ _ h => h) (Or.inl ⟨by rfl, ?_⟩) (by assumption) ?_
                rotate_left
                · intro w hSw; (try dsimp only at hSw); go_simp; (try with_reducible rfl)
                simp only [Act.put, List.setIfInBounds_toArray, List.set_cons_zero, List.set_cons_succ]
                refine wpAnyH_take (i := 10) (oi := { dst := some 70, op := Op.load 42 (Operand.tmp 69), type := 42, pos := "ref.go:96", after := #[{ on := 9, ground := Ground.data }, { on := 6, ground := Ground.guard }], guard := some (6, true) }) (v := ?_) rfl (by kernel_rfl) (by kernel_rfl) (by kernel_rfl) (fun _ _ _ h => h) (Or.inl ⟨by rfl, ?_⟩) (by assumption) ?_
                rotate_left
                · intro w hSw; (try dsimp only at hSw); go_simp; (try with_reducible rfl)
                simp only [Act.put, List.setIfInBounds_toArray, List.set_cons_zero, List.set_cons_succ]
                refine wpAnyH_take (i := 11) (oi := { dst := some 71, op := Op.move (Operand.tmp 1), type := 9, pos := "ref.go:96", after := #[{ on := 6, ground := Ground.guard }], guard := some (6, true) }) (v := ?_) rfl (by kernel_rfl) (by kernel_rfl) (by kernel_rfl) (fun _ _ _ h => h) (Or.inl ⟨by rfl, ?_⟩) (by assumption) ?_
                rotate_left
                · intro w hSw; (try dsimp only at hSw); go_simp; (try with_reducible rfl)
                simp only [Act.put, List.setIfInBounds_toArray, List.set_cons_zero, List.set_cons_succ]
                refine wpAnyH_take (i := 12) (oi := { dst := some 72, op := Op.move (Operand.tmp 8), type := 3, pos := "ref.go:96", after := #[{ on := 6, ground := Ground.guard }], guard := some (6, true) }) (v := ?_) rfl (by kernel_rfl) (by kernel_rfl) (by kernel_rfl) (fun _ _ _ h => h) (Or.inl ⟨by rfl, ?_⟩) (by assumption) ?_
                rotate_left
                · intro w hSw; (try dsimp only at hSw); go_simp; (try with_reducible rfl)
                simp only [Act.put, List.setIfInBounds_toArray, List.set_cons_zero, List.set_cons_succ]
                refine wpAnyH_take (i := 13) (oi := { dst := some 73, op := Op.index 9 (Operand.tmp 71) (Operand.tmp 72), type := 5, pos := "ref.go:96", after := #[{ on := 11, ground := Ground.data }, { on := 12, ground := Ground.data }, { on := 6, ground := Ground.guard }], guard := some (6, true) }) (v := ?_) rfl (by kernel_rfl) (by kernel_rfl) (by kernel_rfl) (fun _ _ _ h => h) (Or.inl ⟨by rfl, ?_⟩) (by assumption) ?_
                rotate_left
                · intro w hSw; (try dsimp only at hSw); go_simp; (try with_reducible rfl)
                simp only [Act.put, List.setIfInBounds_toArray, List.set_cons_zero, List.set_cons_succ]
                refine wpAnyH_ready (rs := [14]) (by kernel_rfl) (by simp) ?_
                refine AllReadyH.cons (o := { dst := some 74, op := Op.call { callee := Callee.value (Operand.func 25), args := #[Operand.tmp 70, Operand.tmp 73], argTypes := #[42, 5] }, type := 4, pos := "ref.go:96", after := #[{ on := 10, ground := Ground.data }, { on := 13, ground := Ground.data }, { on := 6, ground := Ground.chain }, { on := 6, ground := Ground.guard }], guard := some (6, true) }) rfl (fun KK hKK => ?_) AllReadyH.nil
                go_simp
                refine ((unhide HC) _ hb0).mono ?_; rintro e w1 ⟨rfl, b1⟩; have z1 : w1.cell? ⟨b, o + K * 4, none⟩ = some (.int .i64 t.kind) := below_cell b1 k0; have z2 : w1.cell? ⟨b, o + K * 4 + 1, none⟩ = some (.int .u8 t.c) := below_cell b1 k1; have z3 : w1.cell? ⟨b, o + K * 4 + 2, none⟩ = some (.bool t.nt) := below_cell b1 k2; have z4 : w1.cell? ⟨b, o + K * 4 + 3, none⟩ = some (.slice ra t.rs.length rc) := below_cell b1 k3; have z5 : w1.cell? ⟨g, J + 1, none⟩ = some (.bool y) := below_cell b1 hr; have z6 : w1.cell? ⟨h, J, none⟩ = some (.bool x) := (b1.cell (p := ⟨h, J, none⟩) q5).trans hx; have z7 : w1.frozen? ⟨h, J, none⟩ = false := (b1.frozen (p := ⟨h, J, none⟩) q5).trans hz; have z8 : Below w.heap.size w w1 := hb0.trans (b1.mono hb0.size); have y1 := fun u => (World.cell?_setCell_other w1 ⟨h, J, none⟩ ⟨b, o + K * 4, none⟩ u (addr_ne (.inl (Ne.symm hbh)))).trans z1; have y2 := fun u => (World.cell?_setCell_other w1 ⟨h, J, none⟩ ⟨b, o + K * 4 + 1, none⟩ u (addr_ne (.inl (Ne.symm hbh)))).trans z2; have y3 := fun u => (World.cell?_setCell_other w1 ⟨h, J, none⟩ ⟨b, o + K * 4 + 2, none⟩ u (addr_ne (.inl (Ne.symm hbh)))).trans z3; have y4 := fun u => (World.cell?_setCell_other w1 ⟨h, J, none⟩ ⟨b, o + K * 4 + 3, none⟩ u (addr_ne (.inl (Ne.symm hbh)))).trans z4; have y5 := fun u => (World.cell?_setCell_other w1 ⟨h, J, none⟩ ⟨g, J + 1, none⟩ u (addr_ne (.inl (Ne.symm hgh)))).trans z5; have y8 := fun u => z8.setCell (p := ⟨h, J, none⟩) hh1 u
                refine hKK.out _ _ ⟨z1, z2, z3, z4, z5, z8⟩ (fun hHeld => ?_)
                clear hKK KK
                try simp only [Act.put, List.setIfInBounds_toArray, List.set_cons_zero, List.set_cons_succ]
                refine wpAnyH_take (i := 15) (oi := { dst := some 75, op := Op.pick (Operand.tmp 66) (Operand.tmp 74) (Operand.const (Value.bool false)), type := 4, pos := "ref.go:96", after := #[{ on := 6, ground := Ground.data }, { on := 14, ground := Ground.data }], guard := none }) (v := ?_) rfl (by kernel_rfl) (by kernel_rfl) (by kernel_rfl) (fun _ _ _ h => h) (Or.inl ⟨by rfl, ?_⟩) (by assumption) ?_
                rotate_left
                · intro w hSw; (try dsimp only at hSw); go_simp; (try with_reducible rfl)
                simp only [Act.put, List.setIfInBounds_toArray, List.set_cons_zero, List.set_cons_succ]
                refine wpAnyH_take (i := 16) (oi := { dst := some 76, op := Op.move (Operand.tmp 75), type := 4, pos := "ref.go:96", after := #[{ on := 15, ground := Ground.data }, { on := 14, ground := Ground.chain }], guard := none }) (v := ?_) rfl (by kernel_rfl) (by kernel_rfl) (by kernel_rfl) (fun _ _ _ h => h) (Or.inl ⟨by rfl, ?_⟩) (by assumption) ?_
                rotate_left
                · intro w hSw; (try dsimp only at hSw); go_simp; (try with_reducible rfl)
                simp only [Act.put, List.setIfInBounds_toArray, List.set_cons_zero, List.set_cons_succ]
                refine wpAnyH_take (i := 17) (oi := { dst := some 77, op := Op.move (Operand.tmp 5), type := 22, pos := "ref.go:96", after := #[{ on := 16, ground := Ground.guard }], guard := some (16, true) }) (v := undef) rfl (by kernel_rfl) (by kernel_rfl) (by kernel_rfl) (fun _ _ _ h => h) (Or.inr ⟨by rfl, rfl⟩) (by assumption) ?_
                simp only [Act.put, List.setIfInBounds_toArray, List.set_cons_zero, List.set_cons_succ]
                refine wpAnyH_take (i := 18) (oi := { dst := some 78, op := Op.move (Operand.tmp 8), type := 3, pos := "ref.go:96", after := #[{ on := 16, ground := Ground.guard }], guard := some (16, true) }) (v := undef) rfl (by kernel_rfl) (by kernel_rfl) (by kernel_rfl) (fun _ _ _ h => h) (Or.inr ⟨by rfl, rfl⟩) (by assumption) ?_
                simp only [Act.put, List.setIfInBounds_toArray, List.set_cons_zero, List.set_cons_succ]
                refine wpAnyH_take (i := 19) (oi := { dst := some 79, op := Op.binOp BinOp.add 3 (Operand.tmp 78) (Operand.const (Value.int IntKind.i64 1)) 3, type := 3, pos := "ref.go:96", after := #[{ on := 18, ground := Ground.data }, { on := 16, ground := Ground.guard }], guard := some (16, true) }) (v := undef) rfl (by kernel_rfl) (by kernel_rfl) (by kernel_rfl) (fun _ _ _ h => h) (Or.inr ⟨by rfl, rfl⟩) (by assumption) ?_
                simp only [Act.put, List.setIfInBounds_toArray, List.set_cons_zero, List.set_cons_succ]
                refine wpAnyH_take (i := 20) (oi := { dst := some 80, op := Op.indexAddr 22 (Operand.tmp 77) (Operand.tmp 79), type := 0, pos := "ref.go:96", after := #[{ on := 17, ground := Ground.data }, { on := 19, ground := Ground.data }, { on := 16, ground := Ground.guard }], guard := some (16, true) }) (v := undef) rfl (by kernel_rfl) (by kernel_rfl) (by kernel_rfl) (fun _ _ _ h => h) (Or.inr ⟨by rfl, rfl⟩) (by assumption) ?_
                simp only [Act.put, List.setIfInBounds_toArray, List.set_cons_zero, List.set_cons_succ]
                refine wpAnyH_take (i := 21) (oi := { dst := some 81, op := Op.load 4 (Operand.tmp 80), type := 4, pos := "ref.go:96", after := #[{ on := 20, ground := Ground.data }, { on := 16, ground := Ground.guard }], guard := some (16, true) }) (v := undef) rfl (by kernel_rfl) (by kernel_rfl) (by kernel_rfl) (fun _ _ _ h => h) (Or.inr ⟨by rfl, rfl⟩) (by assumption) ?_
                simp only [Act.put, List.setIfInBounds_toArray, List.set_cons_zero, List.set_cons_succ]
                refine wpAnyH_take (i := 22) (oi := { dst := some 82, op := Op.pick (Operand.tmp 76) (Operand.tmp 81) (Operand.const (Value.bool false)), type := 4, pos := "ref.go:96", after := #[{ on := 16, ground := Ground.data }, { on := 21, ground := Ground.data }], guard := none }) (v := ?_) rfl (by kernel_rfl) (by kernel_rfl) (by kernel_rfl) (fun _ _ _ h => h) (Or.inl ⟨by rfl, ?_⟩) (by assumption) ?_
                rotate_left
                · intro w hSw; (try dsimp only at hSw); go_simp; (try with_reducible rfl)
                simp only [Act.put, List.setIfInBounds_toArray, List.set_cons_zero, List.set_cons_succ]
                refine wpAnyH_take (i := 23) (oi := { dst := some 83, op := Op.indexAddr 22 (Operand.tmp 60) (Operand.tmp 61), type := 0, pos := "ref.go:96", after := #[{ on := 0, ground := Ground.data }, { on := 1, ground := Ground.data }, { on := 0, ground := Ground.phase }, { on := 1, ground := Ground.phase }, { on := 2, ground := Ground.phase }, { on := 3, ground := Ground.phase }, { on := 4, ground := Ground.phase }, { on := 5, ground := Ground.phase }, { on := 6, ground := Ground.phase }, { on := 7, ground := Ground.phase }, { on := 8, ground := Ground.phase }, { on := 9, ground := Ground.phase }, { on := 10, ground := Ground.phase }, { on := 11, ground := Ground.phase }, { on := 12, ground := Ground.phase }, { on := 13, ground := Ground.phase }, { on := 14, ground := Ground.phase }, { on := 15, ground := Ground.phase }, { on := 16, ground := Ground.phase }, { on := 17, ground := Ground.phase }, { on := 18, ground := Ground.phase }, { on := 19, ground := Ground.phase }, { on := 20, ground := Ground.phase }, { on := 21, ground := Ground.phase }, { on := 22, ground := Ground.phase }], guard := none }) (v := ?_) rfl (by kernel_rfl) (by kernel_rfl) (by kernel_rfl) (fun _ _ _ h => h) (Or.inl ⟨by rfl, ?_⟩) (by assumption) ?_
                rotate_left
                · intro w hSw; (try dsimp only at hSw); go_simp; (try with_reducible rfl)
                simp only [Act.put, List.setIfInBounds_toArray, List.set_cons_zero, List.set_cons_succ]
                refine wpAnyH_ready (rs := [24]) (by kernel_rfl) (by simp) ?_
                refine AllReadyH.cons (o := { dst := none, op := Op.store 4 (Operand.tmp 83) (Operand.tmp 82), type := 0, pos := "ref.go:96", after := #[{ on := 23, ground := Ground.data }, { on := 22, ground := Ground.data }, { on := 16, ground := Ground.chain }, { on := 0, ground := Ground.phase }, { on := 1, ground := Ground.phase }, { on := 2, ground := Ground.phase }, { on := 3, ground := Ground.phase }, { on := 4, ground := Ground.phase }, { on := 5, ground := Ground.phase }, { on := 6, ground := Ground.phase }, { on := 7, ground := Ground.phase }, { on := 8, ground := Ground.phase }, { on := 9, ground := Ground.phase }, { on := 10, ground := Ground.phase }, { on := 11, ground := Ground.phase }, { on := 12, ground := Ground.phase }, { on := 13, ground := Ground.phase }, { on := 14, ground := Ground.phase }, { on := 15, ground := Ground.phase }, { on := 16, ground := Ground.phase }, { on := 17, ground := Ground.phase }, { on := 18, ground := Ground.phase }, { on := 19, ground := Ground.phase }, { on := 20, ground := Ground.phase }, { on := 21, ground := Ground.phase }, { on := 22, ground := Ground.phase }], guard := none }) rfl (fun KK hKK => ?_) AllReadyH.nil
                go_simp
                refine hKK.out _ _ ⟨y1 _, y2 _, y3 _, y4 _, y5 _, y8 _⟩ (fun hHeld => ?_)
                clear hKK KK hHeld
                refine wpAnyH_done (by kernel_rfl) ?_ _
                all_goals
                  have hs1 := b1.size
                  go_wp2
                  go_roundw
                  case rel =>
                    have b1' := below_drew b1
                    refine ⟨J, by omega, by go_num, ((unhide Q1).of_block (b1'.block _ q5)).put (by rw [unhide HGJ]; simp), free_put ((unhide Q2).of_block (b1'.block _ q5)), ((unhide Q3).of_block (b1'.block _ q6)).of_block (Below.heap_setCell _ _ _ _ (by simp; omega)), y8 _, by simp; simp at hs1; omega, by simp; simp at hs1; omega⟩
                  case measure => simp [intOf]
            · have hdn : decide ((J : Int) < (s.size : Int)) = false := by rw [decide_eq_false_iff_not]; omega
              have HJE : Hid (J = s.size) := hide (by omega)
              clear q1 q2 q3 q4 eJ
              go_wp2_with fail
              go_region
              all_goals
                go_wp2
                go_roundw
                case rel =>
                  refine ⟨J, by omega, by go_num, RowFrom.put (W := wr) (unhide Q1) ?_, free_put (wr := wr) (unhide Q2), (unhide Q3).of_block (Below.heap_setCell _ _ _ _ (by simp; omega)), ((unhide Q4).setCell (p := ⟨h, J, none⟩) hh1 _).drew, by simpa using q5, by simpa using q6⟩
                  have hJe := unhide HJE
                  rw [unhide HDS]
                  subst hJe
                  rw [RF_one_end s t _ hk3]
                case measure => simp [intOf]

end Go.Proofs.Ytegaonlpbcpobaa

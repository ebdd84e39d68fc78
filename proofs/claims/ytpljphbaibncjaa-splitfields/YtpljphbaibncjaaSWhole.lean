/-
  SplitWhole: without borders, and without bytes of ifs in what may be split, there is one field at most.
-/
import Derived.Test.YtpljphbaibncjaaSPlain
import Derived.Test.YtpljphbaibncjaaSHard
namespace Go.Proofs.Ytpljphbaibncjaa
open Go.RowKit

/-- No border, and nothing that splits. -/
def okC (ifs : List UInt8) (q s : Bool) (c : UInt8) : Prop := q = false → s = true → hasB ifs c = false
def wholeP (ifs : List UInt8) (p : Pc) : Prop := p.b = false ∧ ∀ c ∈ p.text, okC ifs p.q p.s c
def isP (p : Pc) : Bool := p.q || !p.text.isEmpty
def isL (l : List Pc) : Bool := l.any isP
theorem is_take {l : List Pc} {k : Nat} {p : Pc} (h : l[k]? = some p) : isL (l.take (k + 1)) = (isL (l.take k) || isP p) := by
  unfold isL
  rw [List.take_add_one, h, List.any_append]
  simp
theorem whole_fold (ifs : List UInt8) : ∀ (l : List Pc) (m : Fd) (t : Bool), (∀ p ∈ l, wholeP ifs p) → l.foldl (pieceS ifs) ⟨[], m, t, false⟩ = ⟨[], m ++ oneL l, t || isL l, false⟩
  | [], m, t, _ => by simp [oneL, isL]
  | p :: l, m, t, h => by
    obtain ⟨hb, hc⟩ := h p (by simp)
    have e : pieceS ifs ⟨[], m, t, false⟩ p = ⟨[], m ++ oneP p, t || isP p, false⟩ := by
      obtain ⟨tx, q, s, b⟩ := p
      simp only at hb hc
      subst hb
      unfold pieceS oneP isP
      cases q with
      | true => simp [addS]
      | false =>
        cases s with
        | true =>
          simp only [Bool.false_eq_true, if_false, Bool.not_true, Bool.false_and, Bool.or_false, Bool.false_or]
          rw [bytes_other ifs tx _ (fun c h1 => hc c h1 rfl rfl) rfl]
        | false =>
          cases tx with
          | nil => simp [qt]
          | cons x r => simp [addS]
    rw [List.foldl_cons, e, whole_fold ifs l _ _ (fun x hx => h x (by simp [hx]))]
    simp [oneL, isL, Bool.or_assoc]
theorem whole_fields (ifs : List UInt8) (l : List Pc) (h : ∀ p ∈ l, wholeP ifs p) : fieldsL ifs l = if isL l then [oneL l] else [] := by
  unfold fieldsL runS
  rw [show ss0 = ⟨[], [], false, false⟩ from rfl, whole_fold ifs l [] false h]
  unfold closeS
  simp only [Bool.false_or, List.nil_append]
  split <;> rfl
theorem frow_one (w : World) (F : Fd) (q : Value) (h : QRow w q (fqs F)) : FRow (w.alloc (.cells #[.string (BA (ftx F)), q] 34)) (.slice (some ⟨w.heap.size, 0, none⟩) 1 1) [F] := by
  have hb := Blk.new w 34 #[.string (BA (ftx F)), q]
  refine ⟨_, 1, rfl, fun i x hi => ?_⟩
  match i, hi with
  | 0, hi =>
    simp at hi
    subst hi
    exact ⟨w.heap.size, q, rfl, hb.lt, hb.cell 0 rfl, hb.cell 1 rfl, h.below ((Below.refl _ _).alloc (Nat.le_refl _) _)⟩
theorem few_is {l : List Pc} (h : fewB l = true) : l.length ≤ 30 ∧ ∀ p ∈ l, p.text.length ≤ 100 := by
  unfold fewB at h
  rw [Bool.and_eq_true] at h
  exact ⟨of_decide_eq_true h.1, fun p hp => of_decide_eq_true (List.all_eq_true.1 h.2 p hp)⟩
/-- Plain of one field. -/
theorem plain_one (v : Value) (F : Fd) (w : World) (h : FRow w v [F]) : Calls Try.prog 10 #[v] w fun e w' => ∃ g c q, e = .returned (.slice (some ⟨g, 0, none⟩) 1 c) ∧ g < w'.heap.size ∧ w'.cell? ⟨g, 0, none⟩ = some (.string (BA (ftx F))) ∧ w'.cell? ⟨g, 1, none⟩ = some q ∧ QRow w' q (fqs F) ∧ Below w.heap.size w w' := by
  refine (plain_any v [F] w h (by simp)).mono fun e w' ⟨u, h1, h2, ad, cap, h3, h4⟩ => ?_
  obtain ⟨g, q, rfl, hg, c0, c1, hq⟩ := h4 0 F rfl
  subst h3
  exact ⟨g, cap, q, h1, hg, c0, c1, hq, h2⟩

set_option maxRecDepth 100000 in
set_option maxHeartbeats 8000000 in
theorem whole_walk (v : Value) (L : List Pc) (ifs : List UInt8) (w : World) (h : PRow w v L) : Calls Try.prog 4 #[v, .string (BA ifs)] w fun e w' => e = .returned (.bool true) ∧ Below w.heap.size w w' := by
  have HAW : Hid (∀ W, Below w.heap.size w W → Calls Try.prog 9 #[] W fun e w' => e = .returned (.bool true) ∧ Below w.heap.size w w') := hide (fun W hW => (awake_any W).mono (fun e w' ⟨h1, h2⟩ => ⟨h1, hW.trans (h2.mono hW.size)⟩))
  have HFW := hide (few_any v L w h)
  have HRW := hide h
  obtain ⟨ad, cap, rfl, hp⟩ := h
  obtain ⟨N, hN⟩ : ∃ N, N = L.length := ⟨_, rfl⟩
  rw [← hN] at HFW ⊢
  have HN := hide hN
  have HP := hide hp
  clear hp
  cases hfw : fewB L with
  | false =>
    rw [hfw] at HFW
    clear hfw hN
    go_enter Try.func4, Try.ntmps4
    go_wp2_with fail
    refine (unhide HFW).mono ?_
    rintro e w1 ⟨rfl, hw1⟩
    rw [show w1 = w from hw1]
    clear hw1
    go_wp2_with fail
    refine (unhide HAW _ (Below.refl _ _)).mono ?_
    rintro e w2 ⟨rfl, b2⟩
    have HB2 := hide b2
    clear b2
    go_wp2
    go_ret
    exact ⟨rfl, unhide HB2⟩
  | true =>
    rw [hfw] at HFW
    have hN30 : N ≤ 30 := by have := (few_is hfw).1; omega
    have HFI := hide (few_is hfw)
    clear hfw hN
    by_cases hi : ifs.length ≤ 100
    · go_enter Try.func4, Try.ntmps4
      go_wp2_with fail
      refine (unhide HFW).mono ?_
      rintro e w1 ⟨rfl, hw1⟩
      rw [show w1 = w from hw1]
      clear hw1
      go_wp2
      go_loop [5, 6] (fun is i => ∃ k : Nat, i = .int .i64 k ∧ k ≤ N ∧ is = .bool (isL (L.take k)) ∧ Hid (∀ p ∈ L.take k, wholeP ifs p)) (fun _ i => N - (intOf i).toNat)
      case atStart => exact ⟨0, rfl, Nat.zero_le _, rfl, hide (fun p hp => by simp at hp)⟩
      case round =>
        obtain ⟨k, rfl, hk, rfl, HT⟩ := hrel
        by_cases hlt : k < N
        · obtain ⟨⟨t, q, sp, br⟩, hx⟩ : ∃ x, L[k]? = some x := ⟨_, List.getElem?_eq_getElem (by have := unhide HN; omega)⟩
          obtain ⟨ts, rfl⟩ : ∃ ts : ByteArray, t = ts.data.toList := ⟨BA t, rfl⟩
          obtain ⟨gp, o, rfl, hgl, c0, c1, c2, c3⟩ := unhide HP k _ hx
          have hts : ts.size ≤ 100 := by have := (unhide HFI).2 _ (List.mem_of_getElem? hx); simp only at this; rwa [data_len] at this
          simp only [BA_of] at c0 c1 c2 c3
          have HX := hide hx
          have hk1 : (k : Int) < (N : Int) := by omega
          obtain ⟨b0, hb0⟩ : ∃ b0, b0 = isL (L.take k) := ⟨_, rfl⟩
          rw [← hb0]
          have HB0 := hide hb0
          clear hx hb0
          cases br with
          | true =>
            go_wp2_with fail
            refine (unhide HAW _ (Below.refl _ _)).mono ?_
            rintro e w2 ⟨rfl, b2⟩
            have HB2 := hide b2
            clear b2
            go_wp2
            go_ret
            exact ⟨rfl, unhide HB2⟩
          | false =>
            go_wp2
            go_loop [7] (fun i => ∃ j : Nat, i = .int .i64 j ∧ j ≤ ts.size ∧ Hid (∀ c ∈ ts.data.toList.take j, okC ifs q sp c)) (fun i => ts.size - (intOf i).toNat)
            case atStart => exact ⟨0, rfl, Nat.zero_le _, hide (fun c hc => by simp at hc)⟩
            case round =>
              obtain ⟨j, rfl, hj, HC⟩ := hrel
              by_cases hjl : j < ts.size
              · obtain ⟨c, hc⟩ : ∃ c : UInt8, ts[j]'hjl = c := ⟨_, rfl⟩
                have hj1 : (j : Int) < (ts.size : Int) := by omega
                have HTK : Hid (ts.data.toList.take (j + 1) = ts.data.toList.take j ++ [c]) := hide (by rw [List.take_add_one, List.getElem?_eq_getElem (by rw [data_len]; exact hjl), data_get ts j hjl, hc]; rfl)
                cases q with
                | true =>
                  go_wp2
                  go_round
                  case rel => exact ⟨j + 1, by go_num, by omega, hide (fun c hc => by
                    rw [unhide HTK] at hc
                    rcases List.mem_append.1 hc with hc | hc
                    · exact unhide HC c hc
                    · exact fun h1 => by cases h1)⟩
                  case measure => simp [intOf]; omega
                | false =>
                  cases sp with
                  | false =>
                    go_wp2
                    go_round
                    case rel => exact ⟨j + 1, by go_num, by omega, hide (fun c hc => by
                      rw [unhide HTK] at hc
                      rcases List.mem_append.1 hc with hc | hc
                      · exact unhide HC c hc
                      · exact fun _ h2 => by cases h2)⟩
                    case measure => simp [intOf]; omega
                  | true =>
                    have HWI := hide (within_any ifs c w (by omega))
                    cases hb : hasB ifs c with
                    | true =>
                      rw [hb] at HWI
                      clear hb
                      go_wp2_with fail
                      refine (unhide HWI).mono ?_
                      rintro e w1 ⟨rfl, hw1⟩
                      rw [show w1 = w from hw1]
                      clear hw1
                      go_wp2_with fail
                      refine (unhide HAW _ (Below.refl _ _)).mono ?_
                      rintro e w2 ⟨rfl, b2⟩
                      have HB2 := hide b2
                      clear b2
                      go_wp2
                      go_ret
                      exact ⟨rfl, unhide HB2⟩
                    | false =>
                      rw [hb] at HWI
                      have HBF := hide hb
                      clear hb
                      go_wp2_with fail
                      refine (unhide HWI).mono ?_
                      rintro e w1 ⟨rfl, hw1⟩
                      rw [show w1 = w from hw1]
                      clear hw1
                      go_wp2
                      go_round
                      case rel => exact ⟨j + 1, by go_num, by omega, hide (fun c hc => by
                        rw [unhide HTK] at hc
                        rcases List.mem_append.1 hc with hc | hc
                        · exact unhide HC c hc
                        · simp at hc; rw [hc]; exact fun _ _ => unhide HBF)⟩
                      case measure => simp [intOf]; omega
              · have HW : Hid (wholeP ifs ⟨ts.data.toList, q, sp, false⟩) := hide ⟨rfl, by have := unhide HC; rwa [List.take_of_length_le (by rw [data_len]; omega)] at this⟩
                have hj1 : ¬ (j : Int) < (ts.size : Int) := by omega
                have he : ts.toList.isEmpty = ts.data.toList.isEmpty := by rw [Lib.toList_data]
                obtain ⟨em, hem⟩ : ∃ em, em = ts.data.toList.isEmpty := ⟨_, rfl⟩
                rw [← hem] at he
                have HR : Hid (isL (L.take (k + 1)) = (b0 || (q || !em))) := hide (by rw [is_take (unhide HX), ← unhide HB0, hem]; rfl)
                have HAll : Hid (∀ p ∈ L.take (k + 1), wholeP ifs p) := hide (fun p hp => by
                  rw [List.take_add_one, unhide HX] at hp
                  rcases List.mem_append.1 hp with hp | hp
                  · exact unhide HT p hp
                  · simp at hp
                    subst hp
                    exact unhide HW)
                clear hem
                cases b0 <;> cases q <;> cases em
                all_goals
                  go_wp2
                  go_round
                  case rel => exact ⟨k + 1, by go_num, by omega, by rw [unhide HR]; rfl, HAll⟩
                  case measure => simp [intOf]; omega
        · have hk1 : ¬ (k : Int) < (N : Int) := by omega
          have HTA : Hid (L.take k = L) := hide (List.take_of_length_le (by have := unhide HN; omega))
          rw [unhide HTA] at HT ⊢
          have HFD := hide (fields_any _ L ifs w 100 (unhide HRW) (by omega) (unhide HFI).2 (by have := (unhide HFI).1; omega))
          rw [whole_fields ifs L (unhide HT), ← unhide HN] at HFD
          have HON : Hid (∀ W, Below w.heap.size w W → Calls Try.prog 14 #[.slice ad N cap] W fun e w' => ∃ q, e = .returned (.agg #[.string (BA (ftx (oneL L))), q]) ∧ Below W.heap.size W w' ∧ QRow w' q (fqs (oneL L))) := hide (fun W hW => by
            have := one_any _ L W 100 ((unhide HRW).below hW) (unhide HFI).2 (by have := (unhide HFI).1; omega)
            rwa [← unhide HN] at this)
          have HSM : Hid (∀ W q1 q2, QRow W q1 (fqs (oneL L)) → QRow W q2 (fqs (oneL L)) → Calls Try.prog 16 #[.agg #[.string (BA (ftx (oneL L))), q1], .agg #[.string (BA (ftx (oneL L))), q2]] W fun e w' => e = .returned (.bool true) ∧ Below W.heap.size W w') := hide (fun W q1 q2 h1 h2 => same_any (oneL L) q1 q2 W h1 h2 (by
            have h3 := one_len 100 L (unhide HFI).2
            have h4 : L.length * (100 + 1) ≤ 30 * 101 := Nat.mul_le_mul_right _ (unhide HFI).1
            omega))
          obtain ⟨F, hF⟩ : ∃ F, F = oneL L := ⟨_, rfl⟩
          rw [← hF] at HFD HON HSM
          have HPL : Hid (∀ W u, Below w.heap.size w W → FRow W u [F] → Calls Try.prog 10 #[u] W fun e w' => ∃ g c q, e = .returned (.slice (some ⟨g, 0, none⟩) 1 c) ∧ g < w'.heap.size ∧ w'.cell? ⟨g, 0, none⟩ = some (.string (BA (ftx F))) ∧ w'.cell? ⟨g, 1, none⟩ = some q ∧ QRow w' q (fqs F) ∧ Below W.heap.size W w') := hide (fun W u _ hu => plain_one u F W hu)
          clear hF
          cases his : isL L with
          | false =>
            rw [his] at HFD
            clear his
            go_wp2_with fail
            refine (unhide HFD).mono ?_
            rintro e w1 ⟨u, rfl, b1, a1, p1, rfl, _⟩
            have HB1 := hide b1
            clear b1
            go_wp2_with fail
            refine (unhide HAW _ (unhide HB1)).mono ?_
            rintro e w2 ⟨rfl, b2⟩
            have HB2 := hide b2
            clear b2
            go_wp2
            go_ret
            exact ⟨rfl, unhide HB2⟩
          | true =>
            rw [his] at HFD
            clear his
            go_wp2_with fail
            refine (unhide HFD).mono ?_
            rintro e w1 ⟨u, rfl, b1, hf1⟩
            have HF1 := hide hf1
            obtain ⟨a1, p1, rfl, _⟩ := hf1
            have HB1 := hide b1
            have HB0 : Hid (Below w.heap.size w w1.drew) := hide ⟨b1.os, b1.tape, b1.output, b1.size, b1.block⟩
            have HF0 : Hid (FRow w1.drew (.slice a1 1 p1) [F]) := hide ((unhide HF1).below (below_drew w1 1))
            clear b1
            go_wp2_with fail
            refine wp_region_held_drew (S := fun _ => True) (by kernel_rfl) trivial (fun hHeld => ?_)
            refine wpAnyH_take (i := 0) (oi := { dst := some 92, op := Op.move (Operand.tmp 8), type := 27, pos := "law.go:90", after := #[], guard := none }) (v := ?_) rfl (by kernel_rfl) (by kernel_rfl) (by kernel_rfl) (fun _ _ _ h => h) (Or.inl ⟨by rfl, ?_⟩) (by assumption) ?_
            rotate_left
            · intro w hSw; (try dsimp only at hSw); go_simp; (try with_reducible rfl)
            simp only [Act.put, List.setIfInBounds_toArray, List.set_cons_zero, List.set_cons_succ]
            refine wpAnyH_take (i := 1) (oi := { dst := some 93, op := Op.call { callee := Callee.builtin Builtin.len, args := #[Operand.tmp 92], argTypes := #[27] }, type := 3, pos := "law.go:90", after := #[{ on := 0, ground := Ground.data }], guard := none }) (v := ?_) rfl (by kernel_rfl) (by kernel_rfl) (by kernel_rfl) (fun _ _ _ h => h) (Or.inl ⟨by rfl, ?_⟩) (by assumption) ?_
            rotate_left
            · intro w hSw; (try dsimp only at hSw); go_simp; (try with_reducible rfl)
            simp only [Act.put, List.setIfInBounds_toArray, List.set_cons_zero, List.set_cons_succ]
            refine wpAnyH_take (i := 2) (oi := { dst := some 94, op := Op.binOp BinOp.eql 3 (Operand.tmp 93) (Operand.const (Value.int IntKind.i64 1)) 3, type := 4, pos := "law.go:90", after := #[{ on := 1, ground := Ground.data }], guard := none }) (v := ?_) rfl (by kernel_rfl) (by kernel_rfl) (by kernel_rfl) (fun _ _ _ h => h) (Or.inl ⟨by rfl, ?_⟩) (by assumption) ?_
            rotate_left
            · intro w hSw; (try dsimp only at hSw); go_simp; (try with_reducible rfl)
            simp only [Act.put, List.setIfInBounds_toArray, List.set_cons_zero, List.set_cons_succ]
            refine wpAnyH_take (i := 3) (oi := { dst := some 95, op := Op.move (Operand.tmp 94), type := 4, pos := "law.go:90", after := #[{ on := 2, ground := Ground.data }], guard := none }) (v := ?_) rfl (by kernel_rfl) (by kernel_rfl) (by kernel_rfl) (fun _ _ _ h => h) (Or.inl ⟨by rfl, ?_⟩) (by assumption) ?_
            rotate_left
            · intro w hSw; (try dsimp only at hSw); go_simp; (try with_reducible rfl)
            simp only [Act.put, List.setIfInBounds_toArray, List.set_cons_zero, List.set_cons_succ]
            refine wpAnyH_take (i := 4) (oi := { dst := some 96, op := Op.move (Operand.tmp 8), type := 27, pos := "law.go:90", after := #[{ on := 3, ground := Ground.guard }], guard := some (3, true) }) (v := ?_) rfl (by kernel_rfl) (by kernel_rfl) (by kernel_rfl) (fun _ _ _ h => h) (Or.inl ⟨by rfl, ?_⟩) (by assumption) ?_
            rotate_left
            · intro w hSw; (try dsimp only at hSw); go_simp; (try with_reducible rfl)
            simp only [Act.put, List.setIfInBounds_toArray, List.set_cons_zero, List.set_cons_succ]
            refine wpAnyH_take (i := 8) (oi := { dst := some 100, op := Op.move (Operand.tmp 0), type := 22, pos := "law.go:90", after := #[{ on := 3, ground := Ground.guard }], guard := some (3, true) }) (v := ?_) rfl (by kernel_rfl) (by kernel_rfl) (by kernel_rfl) (fun _ _ _ h => h) (Or.inl ⟨by rfl, ?_⟩) (by assumption) ?_
            rotate_left
            · intro w hSw; (try dsimp only at hSw); go_simp; (try with_reducible rfl)
            simp only [Act.put, List.setIfInBounds_toArray, List.set_cons_zero, List.set_cons_succ]
            refine wpAnyH_ready (rs := [5]) (by kernel_rfl) (by simp) ?_
            refine AllReadyH.cons (o := { dst := some 97, op := Op.call { callee := Callee.value (Operand.func 10), args := #[Operand.tmp 96], argTypes := #[27] }, type := 25, pos := "law.go:90", after := #[{ on := 4, ground := Ground.data }, { on := 3, ground := Ground.chain }, { on := 3, ground := Ground.guard }], guard := some (3, true) }) rfl (fun KK hKK => ?_) AllReadyH.nil
            go_simp
            refine (unhide HPL _ _ (unhide HB0) (unhide HF0)).mono ?_
            rintro e w2 ⟨g1, c1, q1, rfl, hg1, x0, x1, hq1, b2⟩
            obtain ⟨qa1, qn1, qc1, rfl⟩ := hq1.slice
            have HG1 := hide hg1
            have HX1 := hide (And.intro x0 x1)
            have HQ1 := hide hq1
            have HB2 := hide ((unhide HB0).trans (b2.mono (unhide HB0).size))
            clear hg1 hq1 b2
            refine hKK.out _ _ trivial (fun hHeld => ?_)
            clear hKK KK
            try simp only [Act.put, List.setIfInBounds_toArray, List.set_cons_zero, List.set_cons_succ]
            refine wpAnyH_take (i := 6) (oi := { dst := some 98, op := Op.indexAddr 25 (Operand.tmp 97) (Operand.const (Value.int IntKind.i64 0)), type := 0, pos := "law.go:90", after := #[{ on := 5, ground := Ground.data }, { on := 3, ground := Ground.guard }], guard := some (3, true) }) (v := ?_) rfl (by kernel_rfl) (by kernel_rfl) (by kernel_rfl) (fun _ _ _ h => h) (Or.inl ⟨by rfl, ?_⟩) (by assumption) ?_
            rotate_left
            · intro w hSw; (try dsimp only at hSw); go_simp; (try with_reducible rfl)
            simp only [Act.put, List.setIfInBounds_toArray, List.set_cons_zero, List.set_cons_succ]
            refine wpAnyH_ready (rs := [7, 9]) (by kernel_rfl) (by simp) ?_
            refine AllReadyH.cons (o := { dst := some 99, op := Op.load 38 (Operand.tmp 98), type := 38, pos := "law.go:90", after := #[{ on := 6, ground := Ground.data }, { on := 3, ground := Ground.guard }], guard := some (3, true) }) rfl (fun KK hKK => ?_) (AllReadyH.cons (o := { dst := some 101, op := Op.call { callee := Callee.value (Operand.func 14), args := #[Operand.tmp 100], argTypes := #[22] }, type := 34, pos := "law.go:90", after := #[{ on := 8, ground := Ground.data }, { on := 5, ground := Ground.chain }, { on := 3, ground := Ground.guard }], guard := some (3, true) }) rfl (fun KK hKK => ?_) AllReadyH.nil)
            · go_simp
              refine hKK.out _ _ trivial (fun hHeld => ?_)
              clear hKK KK
              try simp only [Act.put, List.setIfInBounds_toArray, List.set_cons_zero, List.set_cons_succ]
              refine wpAnyH_ready (rs := [9]) (by kernel_rfl) (by simp) ?_
              refine AllReadyH.cons (o := { dst := some 101, op := Op.call { callee := Callee.value (Operand.func 14), args := #[Operand.tmp 100], argTypes := #[22] }, type := 34, pos := "law.go:90", after := #[{ on := 8, ground := Ground.data }, { on := 5, ground := Ground.chain }, { on := 3, ground := Ground.guard }], guard := some (3, true) }) rfl (fun KK hKK => ?_) AllReadyH.nil
              go_simp
              refine (unhide HON _ (unhide HB2)).mono ?_
              rintro e w3 ⟨q3, rfl, b3, hq3⟩
              obtain ⟨qa3, qn3, qc3, rfl⟩ := hq3.slice
              have HQ3 := hide hq3
              have HB3 := hide b3
              have y30 := (b3.cell (p := ⟨g1, 0, none⟩) (show g1 < w2.heap.size from unhide HG1)).trans (unhide HX1).1
              have y31 := (b3.cell (p := ⟨g1, 1, none⟩) (show g1 < w2.heap.size from unhide HG1)).trans (unhide HX1).2
              clear hq3 b3
              refine hKK.out _ _ trivial (fun hHeld => ?_)
              clear hKK KK
              try simp only [Act.put, List.setIfInBounds_toArray, List.set_cons_zero, List.set_cons_succ]
              refine wpAnyH_ready (rs := [10]) (by kernel_rfl) (by simp) ?_
              refine AllReadyH.cons (o := { dst := some 102, op := Op.buildSlice 27 1 #[(0, Operand.tmp 101)], type := 27, pos := "law.go:90", after := #[{ on := 9, ground := Ground.data }, { on := 3, ground := Ground.guard }], guard := some (3, true) }) rfl (fun KK hKK => ?_) AllReadyH.nil
              go_simp
              have y40 := cell_alloc y30 (.cells #[.string (BA (ftx F)), .slice qa3 qn3 qc3] 34)
              have y41 := cell_alloc y31 (.cells #[.string (BA (ftx F)), .slice qa3 qn3 qc3] 34)
              refine hKK.out _ _ trivial (fun hHeld => ?_)
              clear hKK KK
              try simp only [Act.put, List.setIfInBounds_toArray, List.set_cons_zero, List.set_cons_succ]
              refine wpAnyH_ready (rs := [11]) (by kernel_rfl) (by simp) ?_
              refine AllReadyH.cons (o := { dst := some 103, op := Op.call { callee := Callee.value (Operand.func 10), args := #[Operand.tmp 102], argTypes := #[27] }, type := 25, pos := "law.go:90", after := #[{ on := 10, ground := Ground.data }, { on := 9, ground := Ground.chain }, { on := 3, ground := Ground.guard }], guard := some (3, true) }) rfl (fun KK hKK => ?_) AllReadyH.nil
              go_simp
              refine (unhide HPL _ _ ((unhide HB2).trans ((unhide HB3).mono (unhide HB2).size) |>.alloc (Nat.le_trans (unhide HB2).size (unhide HB3).size) _) (frow_one w3 F _ (unhide HQ3))).mono ?_
              rintro e w5 ⟨g5, c5, q5, rfl, hg5, z0, z1, hq5, b5⟩
              obtain ⟨qa5, qn5, qc5, rfl⟩ := hq5.slice
              have HB5 := hide (((Below.refl _ w3).alloc (Nat.le_refl _) _).trans (b5.mono (by rw [World.size_alloc]; omega)))
              have HQ5 := hide hq5
              have y50 := ((unhide HB5).cell (p := ⟨g1, 0, none⟩) (show g1 < w3.heap.size from Nat.lt_of_lt_of_le (unhide HG1) (unhide HB3).size)).trans y30
              have y51 := ((unhide HB5).cell (p := ⟨g1, 1, none⟩) (show g1 < w3.heap.size from Nat.lt_of_lt_of_le (unhide HG1) (unhide HB3).size)).trans y31
              clear hg5 hq5 b5
              refine hKK.out _ _ trivial (fun hHeld => ?_)
              clear hKK KK
              try simp only [Act.put, List.setIfInBounds_toArray, List.set_cons_zero, List.set_cons_succ]
              refine wpAnyH_take (i := 12) (oi := { dst := some 104, op := Op.indexAddr 25 (Operand.tmp 103) (Operand.const (Value.int IntKind.i64 0)), type := 0, pos := "law.go:90", after := #[{ on := 11, ground := Ground.data }, { on := 3, ground := Ground.guard }], guard := some (3, true) }) (v := ?_) rfl (by kernel_rfl) (by kernel_rfl) (by kernel_rfl) (fun _ _ _ h => h) (Or.inl ⟨by rfl, ?_⟩) (by assumption) ?_
              rotate_left
              · intro w hSw; (try dsimp only at hSw); go_simp; (try with_reducible rfl)
              simp only [Act.put, List.setIfInBounds_toArray, List.set_cons_zero, List.set_cons_succ]
              refine wpAnyH_ready (rs := [13]) (by kernel_rfl) (by simp) ?_
              refine AllReadyH.cons (o := { dst := some 105, op := Op.load 38 (Operand.tmp 104), type := 38, pos := "law.go:90", after := #[{ on := 12, ground := Ground.data }, { on := 3, ground := Ground.guard }], guard := some (3, true) }) rfl (fun KK hKK => ?_) AllReadyH.nil
              go_simp
              refine hKK.out _ _ trivial (fun hHeld => ?_)
              clear hKK KK
              try simp only [Act.put, List.setIfInBounds_toArray, List.set_cons_zero, List.set_cons_succ]
              refine wpAnyH_ready (rs := [14]) (by kernel_rfl) (by simp) ?_
              refine AllReadyH.cons (o := { dst := some 106, op := Op.call { callee := Callee.value (Operand.func 16), args := #[Operand.tmp 99, Operand.tmp 105], argTypes := #[38, 38] }, type := 4, pos := "law.go:90", after := #[{ on := 7, ground := Ground.data }, { on := 13, ground := Ground.data }, { on := 11, ground := Ground.chain }, { on := 3, ground := Ground.guard }], guard := some (3, true) }) rfl (fun KK hKK => ?_) AllReadyH.nil
              go_simp
              refine (unhide HSM _ _ _ (((unhide HQ1).below (unhide HB3)).below (unhide HB5)) (unhide HQ5)).mono ?_
              rintro e w6 ⟨rfl, b6⟩
              have HB6 := hide b6
              clear b6
              refine hKK.out _ _ trivial (fun hHeld => ?_)
              clear hKK KK
              try simp only [Act.put, List.setIfInBounds_toArray, List.set_cons_zero, List.set_cons_succ]
              refine wpAnyH_take (i := 15) (oi := { dst := some 107, op := Op.pick (Operand.tmp 95) (Operand.tmp 106) (Operand.const (Value.bool false)), type := 4, pos := "law.go:90", after := #[{ on := 3, ground := Ground.data }, { on := 14, ground := Ground.data }], guard := none }) (v := ?_) rfl (by kernel_rfl) (by kernel_rfl) (by kernel_rfl) (fun _ _ _ h => h) (Or.inl ⟨by rfl, ?_⟩) (by assumption) ?_
              rotate_left
              · intro w hSw; (try dsimp only at hSw); go_simp; (try with_reducible rfl)
              simp only [Act.put, List.setIfInBounds_toArray, List.set_cons_zero, List.set_cons_succ]
              refine wpAnyH_take (i := 16) (oi := { dst := some 108, op := Op.move (Operand.tmp 107), type := 4, pos := "law.go:90", after := #[{ on := 15, ground := Ground.data }, { on := 14, ground := Ground.chain }], guard := none }) (v := ?_) rfl (by kernel_rfl) (by kernel_rfl) (by kernel_rfl) (fun _ _ _ h => h) (Or.inl ⟨by rfl, ?_⟩) (by assumption) ?_
              rotate_left
              · intro w hSw; (try dsimp only at hSw); go_simp; (try with_reducible rfl)
              simp only [Act.put, List.setIfInBounds_toArray, List.set_cons_zero, List.set_cons_succ]
              refine wpAnyH_ready (rs := [17]) (by kernel_rfl) (by simp) ?_
              refine AllReadyH.cons (o := { dst := some 109, op := Op.call { callee := Callee.value (Operand.func 9), args := #[], argTypes := #[] }, type := 4, pos := "law.go:90", after := #[{ on := 16, ground := Ground.chain }, { on := 16, ground := Ground.guard }], guard := some (16, true) }) rfl (fun KK hKK => ?_) AllReadyH.nil
              go_simp
              refine (unhide HAW _ ((((unhide HB2).trans ((unhide HB3).mono (unhide HB2).size)).trans ((unhide HB5).mono (Nat.le_trans (unhide HB2).size (unhide HB3).size))).trans ((unhide HB6).mono (Nat.le_trans (unhide HB2).size (Nat.le_trans (unhide HB3).size (unhide HB5).size))))).mono ?_
              rintro e w7 ⟨rfl, b7⟩
              have HB7 := hide b7
              clear b7
              refine hKK.out _ _ trivial (fun hHeld => ?_)
              clear hKK KK
              try simp only [Act.put, List.setIfInBounds_toArray, List.set_cons_zero, List.set_cons_succ]
              refine wpAnyH_take (i := 18) (oi := { dst := some 110, op := Op.pick (Operand.tmp 108) (Operand.tmp 109) (Operand.const (Value.bool false)), type := 4, pos := "law.go:90", after := #[{ on := 16, ground := Ground.data }, { on := 17, ground := Ground.data }], guard := none }) (v := ?_) rfl (by kernel_rfl) (by kernel_rfl) (by kernel_rfl) (fun _ _ _ h => h) (Or.inl ⟨by rfl, ?_⟩) (by assumption) ?_
              rotate_left
              · intro w hSw; (try dsimp only at hSw); go_simp; (try with_reducible rfl)
              simp only [Act.put, List.setIfInBounds_toArray, List.set_cons_zero, List.set_cons_succ]
              refine wpAnyH_take (i := 19) (oi := { dst := some 4, op := Op.assign (Operand.tmp 110), type := 4, pos := "law.go:90", after := #[{ on := 18, ground := Ground.data }, { on := 17, ground := Ground.chain }, { on := 0, ground := Ground.phase }, { on := 1, ground := Ground.phase }, { on := 2, ground := Ground.phase }, { on := 3, ground := Ground.phase }, { on := 4, ground := Ground.phase }, { on := 5, ground := Ground.phase }, { on := 6, ground := Ground.phase }, { on := 7, ground := Ground.phase }, { on := 8, ground := Ground.phase }, { on := 9, ground := Ground.phase }, { on := 10, ground := Ground.phase }, { on := 11, ground := Ground.phase }, { on := 12, ground := Ground.phase }, { on := 13, ground := Ground.phase }, { on := 14, ground := Ground.phase }, { on := 15, ground := Ground.phase }, { on := 16, ground := Ground.phase }, { on := 17, ground := Ground.phase }, { on := 18, ground := Ground.phase }], guard := none }) (v := ?_) rfl (by kernel_rfl) (by kernel_rfl) (by kernel_rfl) (fun _ _ _ h => h) (Or.inl ⟨by rfl, ?_⟩) (by assumption) ?_
              rotate_left
              · intro w hSw; (try dsimp only at hSw); go_simp; (try with_reducible rfl)
              simp only [Act.put, List.setIfInBounds_toArray, List.set_cons_zero, List.set_cons_succ]
              clear hHeld
              refine wpAnyH_done (by kernel_rfl) ?_ _
              go_wp2
              go_ret
              exact ⟨rfl, unhide HB7⟩
            · go_simp
              refine (unhide HON _ (unhide HB2)).mono ?_
              rintro e w3 ⟨q3, rfl, b3, hq3⟩
              obtain ⟨qa3, qn3, qc3, rfl⟩ := hq3.slice
              have HQ3 := hide hq3
              have HB3 := hide b3
              have y30 := (b3.cell (p := ⟨g1, 0, none⟩) (show g1 < w2.heap.size from unhide HG1)).trans (unhide HX1).1
              have y31 := (b3.cell (p := ⟨g1, 1, none⟩) (show g1 < w2.heap.size from unhide HG1)).trans (unhide HX1).2
              clear hq3 b3
              refine hKK.out _ _ trivial (fun hHeld => ?_)
              clear hKK KK
              try simp only [Act.put, List.setIfInBounds_toArray, List.set_cons_zero, List.set_cons_succ]
              refine wpAnyH_ready (rs := [7, 10]) (by kernel_rfl) (by simp) ?_
              refine AllReadyH.cons (o := { dst := some 99, op := Op.load 38 (Operand.tmp 98), type := 38, pos := "law.go:90", after := #[{ on := 6, ground := Ground.data }, { on := 3, ground := Ground.guard }], guard := some (3, true) }) rfl (fun KK hKK => ?_) (AllReadyH.cons (o := { dst := some 102, op := Op.buildSlice 27 1 #[(0, Operand.tmp 101)], type := 27, pos := "law.go:90", after := #[{ on := 9, ground := Ground.data }, { on := 3, ground := Ground.guard }], guard := some (3, true) }) rfl (fun KK hKK => ?_) AllReadyH.nil)
              · go_simp
                refine hKK.out _ _ trivial (fun hHeld => ?_)
                clear hKK KK
                try simp only [Act.put, List.setIfInBounds_toArray, List.set_cons_zero, List.set_cons_succ]
                refine wpAnyH_ready (rs := [10]) (by kernel_rfl) (by simp) ?_
                refine AllReadyH.cons (o := { dst := some 102, op := Op.buildSlice 27 1 #[(0, Operand.tmp 101)], type := 27, pos := "law.go:90", after := #[{ on := 9, ground := Ground.data }, { on := 3, ground := Ground.guard }], guard := some (3, true) }) rfl (fun KK hKK => ?_) AllReadyH.nil
                go_simp
                have y40 := cell_alloc y30 (.cells #[.string (BA (ftx F)), .slice qa3 qn3 qc3] 34)
                have y41 := cell_alloc y31 (.cells #[.string (BA (ftx F)), .slice qa3 qn3 qc3] 34)
                refine hKK.out _ _ trivial (fun hHeld => ?_)
                clear hKK KK
                try simp only [Act.put, List.setIfInBounds_toArray, List.set_cons_zero, List.set_cons_succ]
                refine wpAnyH_ready (rs := [11]) (by kernel_rfl) (by simp) ?_
                refine AllReadyH.cons (o := { dst := some 103, op := Op.call { callee := Callee.value (Operand.func 10), args := #[Operand.tmp 102], argTypes := #[27] }, type := 25, pos := "law.go:90", after := #[{ on := 10, ground := Ground.data }, { on := 9, ground := Ground.chain }, { on := 3, ground := Ground.guard }], guard := some (3, true) }) rfl (fun KK hKK => ?_) AllReadyH.nil
                go_simp
                refine (unhide HPL _ _ ((unhide HB2).trans ((unhide HB3).mono (unhide HB2).size) |>.alloc (Nat.le_trans (unhide HB2).size (unhide HB3).size) _) (frow_one w3 F _ (unhide HQ3))).mono ?_
                rintro e w5 ⟨g5, c5, q5, rfl, hg5, z0, z1, hq5, b5⟩
                obtain ⟨qa5, qn5, qc5, rfl⟩ := hq5.slice
                have HB5 := hide (((Below.refl _ w3).alloc (Nat.le_refl _) _).trans (b5.mono (by rw [World.size_alloc]; omega)))
                have HQ5 := hide hq5
                have y50 := ((unhide HB5).cell (p := ⟨g1, 0, none⟩) (show g1 < w3.heap.size from Nat.lt_of_lt_of_le (unhide HG1) (unhide HB3).size)).trans y30
                have y51 := ((unhide HB5).cell (p := ⟨g1, 1, none⟩) (show g1 < w3.heap.size from Nat.lt_of_lt_of_le (unhide HG1) (unhide HB3).size)).trans y31
                clear hg5 hq5 b5
                refine hKK.out _ _ trivial (fun hHeld => ?_)
                clear hKK KK
                try simp only [Act.put, List.setIfInBounds_toArray, List.set_cons_zero, List.set_cons_succ]
                refine wpAnyH_take (i := 12) (oi := { dst := some 104, op := Op.indexAddr 25 (Operand.tmp 103) (Operand.const (Value.int IntKind.i64 0)), type := 0, pos := "law.go:90", after := #[{ on := 11, ground := Ground.data }, { on := 3, ground := Ground.guard }], guard := some (3, true) }) (v := ?_) rfl (by kernel_rfl) (by kernel_rfl) (by kernel_rfl) (fun _ _ _ h => h) (Or.inl ⟨by rfl, ?_⟩) (by assumption) ?_
                rotate_left
                · intro w hSw; (try dsimp only at hSw); go_simp; (try with_reducible rfl)
                simp only [Act.put, List.setIfInBounds_toArray, List.set_cons_zero, List.set_cons_succ]
                refine wpAnyH_ready (rs := [13]) (by kernel_rfl) (by simp) ?_
                refine AllReadyH.cons (o := { dst := some 105, op := Op.load 38 (Operand.tmp 104), type := 38, pos := "law.go:90", after := #[{ on := 12, ground := Ground.data }, { on := 3, ground := Ground.guard }], guard := some (3, true) }) rfl (fun KK hKK => ?_) AllReadyH.nil
                go_simp
                refine hKK.out _ _ trivial (fun hHeld => ?_)
                clear hKK KK
                try simp only [Act.put, List.setIfInBounds_toArray, List.set_cons_zero, List.set_cons_succ]
                refine wpAnyH_ready (rs := [14]) (by kernel_rfl) (by simp) ?_
                refine AllReadyH.cons (o := { dst := some 106, op := Op.call { callee := Callee.value (Operand.func 16), args := #[Operand.tmp 99, Operand.tmp 105], argTypes := #[38, 38] }, type := 4, pos := "law.go:90", after := #[{ on := 7, ground := Ground.data }, { on := 13, ground := Ground.data }, { on := 11, ground := Ground.chain }, { on := 3, ground := Ground.guard }], guard := some (3, true) }) rfl (fun KK hKK => ?_) AllReadyH.nil
                go_simp
                refine (unhide HSM _ _ _ (((unhide HQ1).below (unhide HB3)).below (unhide HB5)) (unhide HQ5)).mono ?_
                rintro e w6 ⟨rfl, b6⟩
                have HB6 := hide b6
                clear b6
                refine hKK.out _ _ trivial (fun hHeld => ?_)
                clear hKK KK
                try simp only [Act.put, List.setIfInBounds_toArray, List.set_cons_zero, List.set_cons_succ]
                refine wpAnyH_take (i := 15) (oi := { dst := some 107, op := Op.pick (Operand.tmp 95) (Operand.tmp 106) (Operand.const (Value.bool false)), type := 4, pos := "law.go:90", after := #[{ on := 3, ground := Ground.data }, { on := 14, ground := Ground.data }], guard := none }) (v := ?_) rfl (by kernel_rfl) (by kernel_rfl) (by kernel_rfl) (fun _ _ _ h => h) (Or.inl ⟨by rfl, ?_⟩) (by assumption) ?_
                rotate_left
                · intro w hSw; (try dsimp only at hSw); go_simp; (try with_reducible rfl)
                simp only [Act.put, List.setIfInBounds_toArray, List.set_cons_zero, List.set_cons_succ]
                refine wpAnyH_take (i := 16) (oi := { dst := some 108, op := Op.move (Operand.tmp 107), type := 4, pos := "law.go:90", after := #[{ on := 15, ground := Ground.data }, { on := 14, ground := Ground.chain }], guard := none }) (v := ?_) rfl (by kernel_rfl) (by kernel_rfl) (by kernel_rfl) (fun _ _ _ h => h) (Or.inl ⟨by rfl, ?_⟩) (by assumption) ?_
                rotate_left
                · intro w hSw; (try dsimp only at hSw); go_simp; (try with_reducible rfl)
                simp only [Act.put, List.setIfInBounds_toArray, List.set_cons_zero, List.set_cons_succ]
                refine wpAnyH_ready (rs := [17]) (by kernel_rfl) (by simp) ?_
                refine AllReadyH.cons (o := { dst := some 109, op := Op.call { callee := Callee.value (Operand.func 9), args := #[], argTypes := #[] }, type := 4, pos := "law.go:90", after := #[{ on := 16, ground := Ground.chain }, { on := 16, ground := Ground.guard }], guard := some (16, true) }) rfl (fun KK hKK => ?_) AllReadyH.nil
                go_simp
                refine (unhide HAW _ ((((unhide HB2).trans ((unhide HB3).mono (unhide HB2).size)).trans ((unhide HB5).mono (Nat.le_trans (unhide HB2).size (unhide HB3).size))).trans ((unhide HB6).mono (Nat.le_trans (unhide HB2).size (Nat.le_trans (unhide HB3).size (unhide HB5).size))))).mono ?_
                rintro e w7 ⟨rfl, b7⟩
                have HB7 := hide b7
                clear b7
                refine hKK.out _ _ trivial (fun hHeld => ?_)
                clear hKK KK
                try simp only [Act.put, List.setIfInBounds_toArray, List.set_cons_zero, List.set_cons_succ]
                refine wpAnyH_take (i := 18) (oi := { dst := some 110, op := Op.pick (Operand.tmp 108) (Operand.tmp 109) (Operand.const (Value.bool false)), type := 4, pos := "law.go:90", after := #[{ on := 16, ground := Ground.data }, { on := 17, ground := Ground.data }], guard := none }) (v := ?_) rfl (by kernel_rfl) (by kernel_rfl) (by kernel_rfl) (fun _ _ _ h => h) (Or.inl ⟨by rfl, ?_⟩) (by assumption) ?_
                rotate_left
                · intro w hSw; (try dsimp only at hSw); go_simp; (try with_reducible rfl)
                simp only [Act.put, List.setIfInBounds_toArray, List.set_cons_zero, List.set_cons_succ]
                refine wpAnyH_take (i := 19) (oi := { dst := some 4, op := Op.assign (Operand.tmp 110), type := 4, pos := "law.go:90", after := #[{ on := 18, ground := Ground.data }, { on := 17, ground := Ground.chain }, { on := 0, ground := Ground.phase }, { on := 1, ground := Ground.phase }, { on := 2, ground := Ground.phase }, { on := 3, ground := Ground.phase }, { on := 4, ground := Ground.phase }, { on := 5, ground := Ground.phase }, { on := 6, ground := Ground.phase }, { on := 7, ground := Ground.phase }, { on := 8, ground := Ground.phase }, { on := 9, ground := Ground.phase }, { on := 10, ground := Ground.phase }, { on := 11, ground := Ground.phase }, { on := 12, ground := Ground.phase }, { on := 13, ground := Ground.phase }, { on := 14, ground := Ground.phase }, { on := 15, ground := Ground.phase }, { on := 16, ground := Ground.phase }, { on := 17, ground := Ground.phase }, { on := 18, ground := Ground.phase }], guard := none }) (v := ?_) rfl (by kernel_rfl) (by kernel_rfl) (by kernel_rfl) (fun _ _ _ h => h) (Or.inl ⟨by rfl, ?_⟩) (by assumption) ?_
                rotate_left
                · intro w hSw; (try dsimp only at hSw); go_simp; (try with_reducible rfl)
                simp only [Act.put, List.setIfInBounds_toArray, List.set_cons_zero, List.set_cons_succ]
                clear hHeld
                refine wpAnyH_done (by kernel_rfl) ?_ _
                go_wp2
                go_ret
                exact ⟨rfl, unhide HB7⟩
              · go_simp
                have y40 := cell_alloc y30 (.cells #[.string (BA (ftx F)), .slice qa3 qn3 qc3] 34)
                have y41 := cell_alloc y31 (.cells #[.string (BA (ftx F)), .slice qa3 qn3 qc3] 34)
                refine hKK.out _ _ trivial (fun hHeld => ?_)
                clear hKK KK
                try simp only [Act.put, List.setIfInBounds_toArray, List.set_cons_zero, List.set_cons_succ]
                refine wpAnyH_ready (rs := [7, 11]) (by kernel_rfl) (by simp) ?_
                refine AllReadyH.cons (o := { dst := some 99, op := Op.load 38 (Operand.tmp 98), type := 38, pos := "law.go:90", after := #[{ on := 6, ground := Ground.data }, { on := 3, ground := Ground.guard }], guard := some (3, true) }) rfl (fun KK hKK => ?_) (AllReadyH.cons (o := { dst := some 103, op := Op.call { callee := Callee.value (Operand.func 10), args := #[Operand.tmp 102], argTypes := #[27] }, type := 25, pos := "law.go:90", after := #[{ on := 10, ground := Ground.data }, { on := 9, ground := Ground.chain }, { on := 3, ground := Ground.guard }], guard := some (3, true) }) rfl (fun KK hKK => ?_) AllReadyH.nil)
                · go_simp
                  refine hKK.out _ _ trivial (fun hHeld => ?_)
                  clear hKK KK
                  try simp only [Act.put, List.setIfInBounds_toArray, List.set_cons_zero, List.set_cons_succ]
                  refine wpAnyH_ready (rs := [11]) (by kernel_rfl) (by simp) ?_
                  refine AllReadyH.cons (o := { dst := some 103, op := Op.call { callee := Callee.value (Operand.func 10), args := #[Operand.tmp 102], argTypes := #[27] }, type := 25, pos := "law.go:90", after := #[{ on := 10, ground := Ground.data }, { on := 9, ground := Ground.chain }, { on := 3, ground := Ground.guard }], guard := some (3, true) }) rfl (fun KK hKK => ?_) AllReadyH.nil
                  go_simp
                  refine (unhide HPL _ _ ((unhide HB2).trans ((unhide HB3).mono (unhide HB2).size) |>.alloc (Nat.le_trans (unhide HB2).size (unhide HB3).size) _) (frow_one w3 F _ (unhide HQ3))).mono ?_
                  rintro e w5 ⟨g5, c5, q5, rfl, hg5, z0, z1, hq5, b5⟩
                  obtain ⟨qa5, qn5, qc5, rfl⟩ := hq5.slice
                  have HB5 := hide (((Below.refl _ w3).alloc (Nat.le_refl _) _).trans (b5.mono (by rw [World.size_alloc]; omega)))
                  have HQ5 := hide hq5
                  have y50 := ((unhide HB5).cell (p := ⟨g1, 0, none⟩) (show g1 < w3.heap.size from Nat.lt_of_lt_of_le (unhide HG1) (unhide HB3).size)).trans y30
                  have y51 := ((unhide HB5).cell (p := ⟨g1, 1, none⟩) (show g1 < w3.heap.size from Nat.lt_of_lt_of_le (unhide HG1) (unhide HB3).size)).trans y31
                  clear hg5 hq5 b5
                  refine hKK.out _ _ trivial (fun hHeld => ?_)
                  clear hKK KK
                  try simp only [Act.put, List.setIfInBounds_toArray, List.set_cons_zero, List.set_cons_succ]
                  refine wpAnyH_take (i := 12) (oi := { dst := some 104, op := Op.indexAddr 25 (Operand.tmp 103) (Operand.const (Value.int IntKind.i64 0)), type := 0, pos := "law.go:90", after := #[{ on := 11, ground := Ground.data }, { on := 3, ground := Ground.guard }], guard := some (3, true) }) (v := ?_) rfl (by kernel_rfl) (by kernel_rfl) (by kernel_rfl) (fun _ _ _ h => h) (Or.inl ⟨by rfl, ?_⟩) (by assumption) ?_
                  rotate_left
                  · intro w hSw; (try dsimp only at hSw); go_simp; (try with_reducible rfl)
                  simp only [Act.put, List.setIfInBounds_toArray, List.set_cons_zero, List.set_cons_succ]
                  refine wpAnyH_ready (rs := [13]) (by kernel_rfl) (by simp) ?_
                  refine AllReadyH.cons (o := { dst := some 105, op := Op.load 38 (Operand.tmp 104), type := 38, pos := "law.go:90", after := #[{ on := 12, ground := Ground.data }, { on := 3, ground := Ground.guard }], guard := some (3, true) }) rfl (fun KK hKK => ?_) AllReadyH.nil
                  go_simp
                  refine hKK.out _ _ trivial (fun hHeld => ?_)
                  clear hKK KK
                  try simp only [Act.put, List.setIfInBounds_toArray, List.set_cons_zero, List.set_cons_succ]
                  refine wpAnyH_ready (rs := [14]) (by kernel_rfl) (by simp) ?_
                  refine AllReadyH.cons (o := { dst := some 106, op := Op.call { callee := Callee.value (Operand.func 16), args := #[Operand.tmp 99, Operand.tmp 105], argTypes := #[38, 38] }, type := 4, pos := "law.go:90", after := #[{ on := 7, ground := Ground.data }, { on := 13, ground := Ground.data }, { on := 11, ground := Ground.chain }, { on := 3, ground := Ground.guard }], guard := some (3, true) }) rfl (fun KK hKK => ?_) AllReadyH.nil
                  go_simp
                  refine (unhide HSM _ _ _ (((unhide HQ1).below (unhide HB3)).below (unhide HB5)) (unhide HQ5)).mono ?_
                  rintro e w6 ⟨rfl, b6⟩
                  have HB6 := hide b6
                  clear b6
                  refine hKK.out _ _ trivial (fun hHeld => ?_)
                  clear hKK KK
                  try simp only [Act.put, List.setIfInBounds_toArray, List.set_cons_zero, List.set_cons_succ]
                  refine wpAnyH_take (i := 15) (oi := { dst := some 107, op := Op.pick (Operand.tmp 95) (Operand.tmp 106) (Operand.const (Value.bool false)), type := 4, pos := "law.go:90", after := #[{ on := 3, ground := Ground.data }, { on := 14, ground := Ground.data }], guard := none }) (v := ?_) rfl (by kernel_rfl) (by kernel_rfl) (by kernel_rfl) (fun _ _ _ h => h) (Or.inl ⟨by rfl, ?_⟩) (by assumption) ?_
                  rotate_left
                  · intro w hSw; (try dsimp only at hSw); go_simp; (try with_reducible rfl)
                  simp only [Act.put, List.setIfInBounds_toArray, List.set_cons_zero, List.set_cons_succ]
                  refine wpAnyH_take (i := 16) (oi := { dst := some 108, op := Op.move (Operand.tmp 107), type := 4, pos := "law.go:90", after := #[{ on := 15, ground := Ground.data }, { on := 14, ground := Ground.chain }], guard := none }) (v := ?_) rfl (by kernel_rfl) (by kernel_rfl) (by kernel_rfl) (fun _ _ _ h => h) (Or.inl ⟨by rfl, ?_⟩) (by assumption) ?_
                  rotate_left
                  · intro w hSw; (try dsimp only at hSw); go_simp; (try with_reducible rfl)
                  simp only [Act.put, List.setIfInBounds_toArray, List.set_cons_zero, List.set_cons_succ]
                  refine wpAnyH_ready (rs := [17]) (by kernel_rfl) (by simp) ?_
                  refine AllReadyH.cons (o := { dst := some 109, op := Op.call { callee := Callee.value (Operand.func 9), args := #[], argTypes := #[] }, type := 4, pos := "law.go:90", after := #[{ on := 16, ground := Ground.chain }, { on := 16, ground := Ground.guard }], guard := some (16, true) }) rfl (fun KK hKK => ?_) AllReadyH.nil
                  go_simp
                  refine (unhide HAW _ ((((unhide HB2).trans ((unhide HB3).mono (unhide HB2).size)).trans ((unhide HB5).mono (Nat.le_trans (unhide HB2).size (unhide HB3).size))).trans ((unhide HB6).mono (Nat.le_trans (unhide HB2).size (Nat.le_trans (unhide HB3).size (unhide HB5).size))))).mono ?_
                  rintro e w7 ⟨rfl, b7⟩
                  have HB7 := hide b7
                  clear b7
                  refine hKK.out _ _ trivial (fun hHeld => ?_)
                  clear hKK KK
                  try simp only [Act.put, List.setIfInBounds_toArray, List.set_cons_zero, List.set_cons_succ]
                  refine wpAnyH_take (i := 18) (oi := { dst := some 110, op := Op.pick (Operand.tmp 108) (Operand.tmp 109) (Operand.const (Value.bool false)), type := 4, pos := "law.go:90", after := #[{ on := 16, ground := Ground.data }, { on := 17, ground := Ground.data }], guard := none }) (v := ?_) rfl (by kernel_rfl) (by kernel_rfl) (by kernel_rfl) (fun _ _ _ h => h) (Or.inl ⟨by rfl, ?_⟩) (by assumption) ?_
                  rotate_left
                  · intro w hSw; (try dsimp only at hSw); go_simp; (try with_reducible rfl)
                  simp only [Act.put, List.setIfInBounds_toArray, List.set_cons_zero, List.set_cons_succ]
                  refine wpAnyH_take (i := 19) (oi := { dst := some 4, op := Op.assign (Operand.tmp 110), type := 4, pos := "law.go:90", after := #[{ on := 18, ground := Ground.data }, { on := 17, ground := Ground.chain }, { on := 0, ground := Ground.phase }, { on := 1, ground := Ground.phase }, { on := 2, ground := Ground.phase }, { on := 3, ground := Ground.phase }, { on := 4, ground := Ground.phase }, { on := 5, ground := Ground.phase }, { on := 6, ground := Ground.phase }, { on := 7, ground := Ground.phase }, { on := 8, ground := Ground.phase }, { on := 9, ground := Ground.phase }, { on := 10, ground := Ground.phase }, { on := 11, ground := Ground.phase }, { on := 12, ground := Ground.phase }, { on := 13, ground := Ground.phase }, { on := 14, ground := Ground.phase }, { on := 15, ground := Ground.phase }, { on := 16, ground := Ground.phase }, { on := 17, ground := Ground.phase }, { on := 18, ground := Ground.phase }], guard := none }) (v := ?_) rfl (by kernel_rfl) (by kernel_rfl) (by kernel_rfl) (fun _ _ _ h => h) (Or.inl ⟨by rfl, ?_⟩) (by assumption) ?_
                  rotate_left
                  · intro w hSw; (try dsimp only at hSw); go_simp; (try with_reducible rfl)
                  simp only [Act.put, List.setIfInBounds_toArray, List.set_cons_zero, List.set_cons_succ]
                  clear hHeld
                  refine wpAnyH_done (by kernel_rfl) ?_ _
                  go_wp2
                  go_ret
                  exact ⟨rfl, unhide HB7⟩
                · go_simp
                  refine (unhide HPL _ _ ((unhide HB2).trans ((unhide HB3).mono (unhide HB2).size) |>.alloc (Nat.le_trans (unhide HB2).size (unhide HB3).size) _) (frow_one w3 F _ (unhide HQ3))).mono ?_
                  rintro e w5 ⟨g5, c5, q5, rfl, hg5, z0, z1, hq5, b5⟩
                  obtain ⟨qa5, qn5, qc5, rfl⟩ := hq5.slice
                  have HB5 := hide (((Below.refl _ w3).alloc (Nat.le_refl _) _).trans (b5.mono (by rw [World.size_alloc]; omega)))
                  have HQ5 := hide hq5
                  have y50 := ((unhide HB5).cell (p := ⟨g1, 0, none⟩) (show g1 < w3.heap.size from Nat.lt_of_lt_of_le (unhide HG1) (unhide HB3).size)).trans y30
                  have y51 := ((unhide HB5).cell (p := ⟨g1, 1, none⟩) (show g1 < w3.heap.size from Nat.lt_of_lt_of_le (unhide HG1) (unhide HB3).size)).trans y31
                  clear hg5 hq5 b5
                  refine hKK.out _ _ trivial (fun hHeld => ?_)
                  clear hKK KK
                  try simp only [Act.put, List.setIfInBounds_toArray, List.set_cons_zero, List.set_cons_succ]
                  refine wpAnyH_take (i := 12) (oi := { dst := some 104, op := Op.indexAddr 25 (Operand.tmp 103) (Operand.const (Value.int IntKind.i64 0)), type := 0, pos := "law.go:90", after := #[{ on := 11, ground := Ground.data }, { on := 3, ground := Ground.guard }], guard := some (3, true) }) (v := ?_) rfl (by kernel_rfl) (by kernel_rfl) (by kernel_rfl) (fun _ _ _ h => h) (Or.inl ⟨by rfl, ?_⟩) (by assumption) ?_
                  rotate_left
                  · intro w hSw; (try dsimp only at hSw); go_simp; (try with_reducible rfl)
                  simp only [Act.put, List.setIfInBounds_toArray, List.set_cons_zero, List.set_cons_succ]
                  refine wpAnyH_ready (rs := [7, 13]) (by kernel_rfl) (by simp) ?_
                  refine AllReadyH.cons (o := { dst := some 99, op := Op.load 38 (Operand.tmp 98), type := 38, pos := "law.go:90", after := #[{ on := 6, ground := Ground.data }, { on := 3, ground := Ground.guard }], guard := some (3, true) }) rfl (fun KK hKK => ?_) (AllReadyH.cons (o := { dst := some 105, op := Op.load 38 (Operand.tmp 104), type := 38, pos := "law.go:90", after := #[{ on := 12, ground := Ground.data }, { on := 3, ground := Ground.guard }], guard := some (3, true) }) rfl (fun KK hKK => ?_) AllReadyH.nil)
                  · go_simp
                    refine hKK.out _ _ trivial (fun hHeld => ?_)
                    clear hKK KK
                    try simp only [Act.put, List.setIfInBounds_toArray, List.set_cons_zero, List.set_cons_succ]
                    refine wpAnyH_ready (rs := [13]) (by kernel_rfl) (by simp) ?_
                    refine AllReadyH.cons (o := { dst := some 105, op := Op.load 38 (Operand.tmp 104), type := 38, pos := "law.go:90", after := #[{ on := 12, ground := Ground.data }, { on := 3, ground := Ground.guard }], guard := some (3, true) }) rfl (fun KK hKK => ?_) AllReadyH.nil
                    go_simp
                    refine hKK.out _ _ trivial (fun hHeld => ?_)
                    clear hKK KK
                    try simp only [Act.put, List.setIfInBounds_toArray, List.set_cons_zero, List.set_cons_succ]
                    refine wpAnyH_ready (rs := [14]) (by kernel_rfl) (by simp) ?_
                    refine AllReadyH.cons (o := { dst := some 106, op := Op.call { callee := Callee.value (Operand.func 16), args := #[Operand.tmp 99, Operand.tmp 105], argTypes := #[38, 38] }, type := 4, pos := "law.go:90", after := #[{ on := 7, ground := Ground.data }, { on := 13, ground := Ground.data }, { on := 11, ground := Ground.chain }, { on := 3, ground := Ground.guard }], guard := some (3, true) }) rfl (fun KK hKK => ?_) AllReadyH.nil
                    go_simp
                    refine (unhide HSM _ _ _ (((unhide HQ1).below (unhide HB3)).below (unhide HB5)) (unhide HQ5)).mono ?_
                    rintro e w6 ⟨rfl, b6⟩
                    have HB6 := hide b6
                    clear b6
                    refine hKK.out _ _ trivial (fun hHeld => ?_)
                    clear hKK KK
                    try simp only [Act.put, List.setIfInBounds_toArray, List.set_cons_zero, List.set_cons_succ]
                    refine wpAnyH_take (i := 15) (oi := { dst := some 107, op := Op.pick (Operand.tmp 95) (Operand.tmp 106) (Operand.const (Value.bool false)), type := 4, pos := "law.go:90", after := #[{ on := 3, ground := Ground.data }, { on := 14, ground := Ground.data }], guard := none }) (v := ?_) rfl (by kernel_rfl) (by kernel_rfl) (by kernel_rfl) (fun _ _ _ h => h) (Or.inl ⟨by rfl, ?_⟩) (by assumption) ?_
                    rotate_left
                    · intro w hSw; (try dsimp only at hSw); go_simp; (try with_reducible rfl)
                    simp only [Act.put, List.setIfInBounds_toArray, List.set_cons_zero, List.set_cons_succ]
                    refine wpAnyH_take (i := 16) (oi := { dst := some 108, op := Op.move (Operand.tmp 107), type := 4, pos := "law.go:90", after := #[{ on := 15, ground := Ground.data }, { on := 14, ground := Ground.chain }], guard := none }) (v := ?_) rfl (by kernel_rfl) (by kernel_rfl) (by kernel_rfl) (fun _ _ _ h => h) (Or.inl ⟨by rfl, ?_⟩) (by assumption) ?_
                    rotate_left
                    · intro w hSw; (try dsimp only at hSw); go_simp; (try with_reducible rfl)
                    simp only [Act.put, List.setIfInBounds_toArray, List.set_cons_zero, List.set_cons_succ]
                    refine wpAnyH_ready (rs := [17]) (by kernel_rfl) (by simp) ?_
                    refine AllReadyH.cons (o := { dst := some 109, op := Op.call { callee := Callee.value (Operand.func 9), args := #[], argTypes := #[] }, type := 4, pos := "law.go:90", after := #[{ on := 16, ground := Ground.chain }, { on := 16, ground := Ground.guard }], guard := some (16, true) }) rfl (fun KK hKK => ?_) AllReadyH.nil
                    go_simp
                    refine (unhide HAW _ ((((unhide HB2).trans ((unhide HB3).mono (unhide HB2).size)).trans ((unhide HB5).mono (Nat.le_trans (unhide HB2).size (unhide HB3).size))).trans ((unhide HB6).mono (Nat.le_trans (unhide HB2).size (Nat.le_trans (unhide HB3).size (unhide HB5).size))))).mono ?_
                    rintro e w7 ⟨rfl, b7⟩
                    have HB7 := hide b7
                    clear b7
                    refine hKK.out _ _ trivial (fun hHeld => ?_)
                    clear hKK KK
                    try simp only [Act.put, List.setIfInBounds_toArray, List.set_cons_zero, List.set_cons_succ]
                    refine wpAnyH_take (i := 18) (oi := { dst := some 110, op := Op.pick (Operand.tmp 108) (Operand.tmp 109) (Operand.const (Value.bool false)), type := 4, pos := "law.go:90", after := #[{ on := 16, ground := Ground.data }, { on := 17, ground := Ground.data }], guard := none }) (v := ?_) rfl (by kernel_rfl) (by kernel_rfl) (by kernel_rfl) (fun _ _ _ h => h) (Or.inl ⟨by rfl, ?_⟩) (by assumption) ?_
                    rotate_left
                    · intro w hSw; (try dsimp only at hSw); go_simp; (try with_reducible rfl)
                    simp only [Act.put, List.setIfInBounds_toArray, List.set_cons_zero, List.set_cons_succ]
                    refine wpAnyH_take (i := 19) (oi := { dst := some 4, op := Op.assign (Operand.tmp 110), type := 4, pos := "law.go:90", after := #[{ on := 18, ground := Ground.data }, { on := 17, ground := Ground.chain }, { on := 0, ground := Ground.phase }, { on := 1, ground := Ground.phase }, { on := 2, ground := Ground.phase }, { on := 3, ground := Ground.phase }, { on := 4, ground := Ground.phase }, { on := 5, ground := Ground.phase }, { on := 6, ground := Ground.phase }, { on := 7, ground := Ground.phase }, { on := 8, ground := Ground.phase }, { on := 9, ground := Ground.phase }, { on := 10, ground := Ground.phase }, { on := 11, ground := Ground.phase }, { on := 12, ground := Ground.phase }, { on := 13, ground := Ground.phase }, { on := 14, ground := Ground.phase }, { on := 15, ground := Ground.phase }, { on := 16, ground := Ground.phase }, { on := 17, ground := Ground.phase }, { on := 18, ground := Ground.phase }], guard := none }) (v := ?_) rfl (by kernel_rfl) (by kernel_rfl) (by kernel_rfl) (fun _ _ _ h => h) (Or.inl ⟨by rfl, ?_⟩) (by assumption) ?_
                    rotate_left
                    · intro w hSw; (try dsimp only at hSw); go_simp; (try with_reducible rfl)
                    simp only [Act.put, List.setIfInBounds_toArray, List.set_cons_zero, List.set_cons_succ]
                    clear hHeld
                    refine wpAnyH_done (by kernel_rfl) ?_ _
                    go_wp2
                    go_ret
                    exact ⟨rfl, unhide HB7⟩
                  · go_simp
                    refine hKK.out _ _ trivial (fun hHeld => ?_)
                    clear hKK KK
                    try simp only [Act.put, List.setIfInBounds_toArray, List.set_cons_zero, List.set_cons_succ]
                    refine wpAnyH_ready (rs := [7]) (by kernel_rfl) (by simp) ?_
                    refine AllReadyH.cons (o := { dst := some 99, op := Op.load 38 (Operand.tmp 98), type := 38, pos := "law.go:90", after := #[{ on := 6, ground := Ground.data }, { on := 3, ground := Ground.guard }], guard := some (3, true) }) rfl (fun KK hKK => ?_) AllReadyH.nil
                    go_simp
                    refine hKK.out _ _ trivial (fun hHeld => ?_)
                    clear hKK KK
                    try simp only [Act.put, List.setIfInBounds_toArray, List.set_cons_zero, List.set_cons_succ]
                    refine wpAnyH_ready (rs := [14]) (by kernel_rfl) (by simp) ?_
                    refine AllReadyH.cons (o := { dst := some 106, op := Op.call { callee := Callee.value (Operand.func 16), args := #[Operand.tmp 99, Operand.tmp 105], argTypes := #[38, 38] }, type := 4, pos := "law.go:90", after := #[{ on := 7, ground := Ground.data }, { on := 13, ground := Ground.data }, { on := 11, ground := Ground.chain }, { on := 3, ground := Ground.guard }], guard := some (3, true) }) rfl (fun KK hKK => ?_) AllReadyH.nil
                    go_simp
                    refine (unhide HSM _ _ _ (((unhide HQ1).below (unhide HB3)).below (unhide HB5)) (unhide HQ5)).mono ?_
                    rintro e w6 ⟨rfl, b6⟩
                    have HB6 := hide b6
                    clear b6
                    refine hKK.out _ _ trivial (fun hHeld => ?_)
                    clear hKK KK
                    try simp only [Act.put, List.setIfInBounds_toArray, List.set_cons_zero, List.set_cons_succ]
                    refine wpAnyH_take (i := 15) (oi := { dst := some 107, op := Op.pick (Operand.tmp 95) (Operand.tmp 106) (Operand.const (Value.bool false)), type := 4, pos := "law.go:90", after := #[{ on := 3, ground := Ground.data }, { on := 14, ground := Ground.data }], guard := none }) (v := ?_) rfl (by kernel_rfl) (by kernel_rfl) (by kernel_rfl) (fun _ _ _ h => h) (Or.inl ⟨by rfl, ?_⟩) (by assumption) ?_
                    rotate_left
                    · intro w hSw; (try dsimp only at hSw); go_simp; (try with_reducible rfl)
                    simp only [Act.put, List.setIfInBounds_toArray, List.set_cons_zero, List.set_cons_succ]
                    refine wpAnyH_take (i := 16) (oi := { dst := some 108, op := Op.move (Operand.tmp 107), type := 4, pos := "law.go:90", after := #[{ on := 15, ground := Ground.data }, { on := 14, ground := Ground.chain }], guard := none }) (v := ?_) rfl (by kernel_rfl) (by kernel_rfl) (by kernel_rfl) (fun _ _ _ h => h) (Or.inl ⟨by rfl, ?_⟩) (by assumption) ?_
                    rotate_left
                    · intro w hSw; (try dsimp only at hSw); go_simp; (try with_reducible rfl)
                    simp only [Act.put, List.setIfInBounds_toArray, List.set_cons_zero, List.set_cons_succ]
                    refine wpAnyH_ready (rs := [17]) (by kernel_rfl) (by simp) ?_
                    refine AllReadyH.cons (o := { dst := some 109, op := Op.call { callee := Callee.value (Operand.func 9), args := #[], argTypes := #[] }, type := 4, pos := "law.go:90", after := #[{ on := 16, ground := Ground.chain }, { on := 16, ground := Ground.guard }], guard := some (16, true) }) rfl (fun KK hKK => ?_) AllReadyH.nil
                    go_simp
                    refine (unhide HAW _ ((((unhide HB2).trans ((unhide HB3).mono (unhide HB2).size)).trans ((unhide HB5).mono (Nat.le_trans (unhide HB2).size (unhide HB3).size))).trans ((unhide HB6).mono (Nat.le_trans (unhide HB2).size (Nat.le_trans (unhide HB3).size (unhide HB5).size))))).mono ?_
                    rintro e w7 ⟨rfl, b7⟩
                    have HB7 := hide b7
                    clear b7
                    refine hKK.out _ _ trivial (fun hHeld => ?_)
                    clear hKK KK
                    try simp only [Act.put, List.setIfInBounds_toArray, List.set_cons_zero, List.set_cons_succ]
                    refine wpAnyH_take (i := 18) (oi := { dst := some 110, op := Op.pick (Operand.tmp 108) (Operand.tmp 109) (Operand.const (Value.bool false)), type := 4, pos := "law.go:90", after := #[{ on := 16, ground := Ground.data }, { on := 17, ground := Ground.data }], guard := none }) (v := ?_) rfl (by kernel_rfl) (by kernel_rfl) (by kernel_rfl) (fun _ _ _ h => h) (Or.inl ⟨by rfl, ?_⟩) (by assumption) ?_
                    rotate_left
                    · intro w hSw; (try dsimp only at hSw); go_simp; (try with_reducible rfl)
                    simp only [Act.put, List.setIfInBounds_toArray, List.set_cons_zero, List.set_cons_succ]
                    refine wpAnyH_take (i := 19) (oi := { dst := some 4, op := Op.assign (Operand.tmp 110), type := 4, pos := "law.go:90", after := #[{ on := 18, ground := Ground.data }, { on := 17, ground := Ground.chain }, { on := 0, ground := Ground.phase }, { on := 1, ground := Ground.phase }, { on := 2, ground := Ground.phase }, { on := 3, ground := Ground.phase }, { on := 4, ground := Ground.phase }, { on := 5, ground := Ground.phase }, { on := 6, ground := Ground.phase }, { on := 7, ground := Ground.phase }, { on := 8, ground := Ground.phase }, { on := 9, ground := Ground.phase }, { on := 10, ground := Ground.phase }, { on := 11, ground := Ground.phase }, { on := 12, ground := Ground.phase }, { on := 13, ground := Ground.phase }, { on := 14, ground := Ground.phase }, { on := 15, ground := Ground.phase }, { on := 16, ground := Ground.phase }, { on := 17, ground := Ground.phase }, { on := 18, ground := Ground.phase }], guard := none }) (v := ?_) rfl (by kernel_rfl) (by kernel_rfl) (by kernel_rfl) (fun _ _ _ h => h) (Or.inl ⟨by rfl, ?_⟩) (by assumption) ?_
                    rotate_left
                    · intro w hSw; (try dsimp only at hSw); go_simp; (try with_reducible rfl)
                    simp only [Act.put, List.setIfInBounds_toArray, List.set_cons_zero, List.set_cons_succ]
                    clear hHeld
                    refine wpAnyH_done (by kernel_rfl) ?_ _
                    go_wp2
                    go_ret
                    exact ⟨rfl, unhide HB7⟩
    · go_enter Try.func4, Try.ntmps4
      go_wp2_with fail
      refine (unhide HFW).mono ?_
      rintro e w1 ⟨rfl, hw1⟩
      rw [show w1 = w from hw1]
      clear hw1
      go_wp2_with fail
      refine (unhide HAW _ (Below.refl _ _)).mono ?_
      rintro e w2 ⟨rfl, b2⟩
      have HB2 := hide b2
      clear b2
      go_wp2
      go_ret
      exact ⟨rfl, unhide HB2⟩

end Go.Proofs.Ytpljphbaibncjaa

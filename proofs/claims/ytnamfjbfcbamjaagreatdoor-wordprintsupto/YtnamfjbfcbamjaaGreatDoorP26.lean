/-
  Package word's page: dollar and part.
  Package word's page: part.
  Package word's page: a word of any parts.
-/
import Derived.Test.YtnamfjbfcbamjaaGreatDoorP24
import Derived.Test.YtnamfjbfcbamjaaGreatDoorP25
namespace Go.Proofs.YtnamfjbfcbamjaaGreatDoor
open Go.RowKit
theorem nxtT_lt (k : Nat) (q : Bool) (op : Int) : nxtT k q op < 4 := by
  unfold nxtT
  split
  · omega
  · split <;> omega
theorem pbrace_any {N : Nat} (HW : WdN N) (k : Nat) (kd : Int) (t : List UInt8) (q : Bool) (op : Int) (c : Bool) (v : Value) (s : List Prt) (A : Nat → Prop) (w : World) (b : Nat) (X : Nat → Prop) (full : List UInt8)
    (he : WEnv w) (hb3 : 3 ≤ b) (h : PgC w b X full) (hv : WAt w A v s) (hA : ∀ j, A j → j < w.heap.size ∧ ¬ X j) (hN : SizeOf.sizeOf s ≤ N) (hl : (full ++ dolOf 2 t op c (wrdT (nxtT k q op) s)).length ≤ 10000) :
    Calls Tryz.prog 81 #[.pointer (some ⟨b, 0, none⟩), .agg #[.int .i64 kd, .string (BA t), .bool q, .int .i64 op, .bool c, v], .agg (penC k)] w fun e w' => e = .returned (.tuple #[]) ∧ Wrote w b X (full ++ dolOf 2 t op c (wrdT (nxtT k q op) s)) w' := by
  by_cases hlo : op < 0
  · exact pbrace_lo (penL k) (penI k) (mrkT k) _ kd t q op c hlo v s w b X full hb3 h
  by_cases hhi : 9 < op
  · exact pbrace_hi (penL k) (penI k) (mrkT k) _ kd t q op c hhi v s w b X full hb3 h
  by_cases h2 : 2 ≤ op
  · by_cases hk : k = 0
    · subst hk
      cases c
      · exact pbrace_pdf HW (penL 0) (mrkT 0) _ (nxtT_lt _ _ _) kd t q op h2 (by omega) v s A w b X full (fun W => penI_any 0 kd (BA t) q op false v W) he hb3 h hv hA hN hl
      · exact pbrace_pdt HW (penL 0) (mrkT 0) _ (nxtT_lt _ _ _) kd t q op h2 (by omega) v s A w b X full (fun W => penI_any 0 kd (BA t) q op true v W) he hb3 h hv hA hN hl
    · have hI : penI k = 38 := by unfold penI; rw [if_neg hk]
      have hpc : penC k = #[.func (Fn.func (penL k)) #[] #[], .string (BA (mrkT k)), .func (Fn.func 38) #[] #[]] := by unfold penC; rw [hI]
      rw [hpc]
      cases c
      · exact pbrace_qdf HW (penL k) (mrkT k) _ (nxtT_lt _ _ _) kd t q op h2 (by omega) v s A w b X full (fun W => by have := penI_any k kd (BA t) q op false v W; rwa [hI] at this) he hb3 h hv hA hN hl
      · exact pbrace_qdt HW (penL k) (mrkT k) _ (nxtT_lt _ _ _) kd t q op h2 (by omega) v s A w b X full (fun W => by have := penI_any k kd (BA t) q op true v W; rwa [hI] at this) he hb3 h hv hA hN hl
  · have h01 : op = 0 ∨ op = 1 := by omega
    rcases h01 with rfl | rfl
    · cases c
      · exact pbrace_0f (penL k) (penI k) (mrkT k) _ kd t q v s w b X full he hb3 h hl
      · exact pbrace_0t (penL k) (penI k) (mrkT k) _ kd t q v s w b X full he hb3 h hl
    · cases c
      · exact pbrace_1f (penL k) (penI k) (mrkT k) _ kd t q v s w b X full he hb3 h hl
      · exact pbrace_1t (penL k) (penI k) (mrkT k) _ kd t q v s w b X full he hb3 h hl
theorem Sd.apart {w wi : World} {b m : Nat} {X : Nat → Prop} {K : Nat → TypeId → Array Value → Prop} {full : List UInt8} (h : Sd w b X m K full wi) {A Xi : Nat → Prop} (hA : ∀ j, A j → j < w.heap.size ∧ ¬ X j) (hx : ∀ k, Xi k → X k ∨ w.heap.size + m ≤ k) : ∀ j, A j → j < wi.heap.size ∧ ¬ Xi j :=
  fun j hj => ⟨Nat.lt_of_lt_of_le (hA j hj).1 (by have := h.size; omega), fun e => by
    rcases hx j e with e | e
    · exact (hA j hj).2 e
    · have := (hA j hj).1; omega⟩
theorem dolOf_2 (t : List UInt8) (op : Int) (c : Bool) (s : List UInt8) : dolOf 2 t op c s = dolOf 2 t op c s := rfl
theorem dolOf_3 (t : List UInt8) (op : Int) (c : Bool) (s : List UInt8) : dolOf 3 t op c s = [36, 40] ++ t ++ [41] := by simp [dolOf]
theorem dolOf_4 (t : List UInt8) (op : Int) (c : Bool) (s : List UInt8) : dolOf 4 t op c s = [36, 40, 40] ++ t ++ [41, 41] := by simp [dolOf]
theorem dolOf_no {k : Int} (h2 : k ≠ 2) (h3 : k ≠ 3) (h4 : k ≠ 4) (t : List UInt8) (op : Int) (c : Bool) (s : List UInt8) : dolOf k t op c s = [] := by simp [dolOf, h2, h3, h4]
set_option maxRecDepth 20000 in
set_option maxHeartbeats 8000000 in
theorem pdollar_any {N : Nat} (HW : WdN N) (k : Nat) (kd : Int) (t : List UInt8) (q : Bool) (op : Int) (c : Bool) (v : Value) (s : List Prt) (A : Nat → Prop) (w : World) (b : Nat) (X : Nat → Prop) (full : List UInt8)
    (he : WEnv w) (hb3 : 3 ≤ b) (h : PgC w b X full) (hv : WAt w A v s) (hA : ∀ j, A j → j < w.heap.size ∧ ¬ X j) (hN : SizeOf.sizeOf s ≤ N) (hl : (full ++ dolOf kd t op c (wrdT (nxtT k q op) s)).length ≤ 10000) :
    Calls Tryz.prog 67 #[.pointer (some ⟨b, 0, none⟩), .agg #[.int .i64 kd, .string (BA t), .bool q, .int .i64 op, .bool c, v], .agg (penC k)] w fun e w' => e = .returned (.tuple #[]) ∧ Wrote w b X (full ++ dolOf kd t op c (wrdT (nxtT k q op) s)) w' := by
  have HS0 := hide (Sd.two h hb3 #[.int .i64 kd, .string (BA t), .bool q, .int .i64 op, .bool c, v] (penC k))
  have hfl : full.length ≤ 10000 := by simp at hl; omega
  by_cases e2 : kd = 2
  · subst e2
    have HB : Hid (∀ wi, Sd w b X 2 (K2 w.heap.size #[.int .i64 2, .string (BA t), .bool q, .int .i64 op, .bool c, v] (penC k)) full wi → Calls Tryz.prog 81 #[.pointer (some ⟨b, 0, none⟩), .agg #[.int .i64 2, .string (BA t), .bool q, .int .i64 op, .bool c, v], .agg (penC k)] wi fun e w' => e = .returned (.tuple #[]) ∧ Sd w b X 2 (K2 w.heap.size #[.int .i64 2, .string (BA t), .bool q, .int .i64 op, .bool c, v] (penC k)) (full ++ dolOf 2 t op c (wrdT (nxtT k q op) s)) w') :=
      hide (fun wi hi => hi.go (fun Xi hp hx => pbrace_any HW k 2 t q op c v s A wi b Xi full (hi.env he) hb3 hp (hi.wat hv hA) (hi.apart hA hx) hN hl))
    obtain ⟨D, hD⟩ : ∃ D, dolOf 2 t op c (wrdT (nxtT k q op) s) = D := ⟨_, rfl⟩
    rw [hD] at HB ⊢
    unfold penC at HB HS0 ⊢
    obtain ⟨L, hL⟩ : ∃ L, penL k = L := ⟨_, rfl⟩
    obtain ⟨I, hI⟩ : ∃ I, penI k = I := ⟨_, rfl⟩
    obtain ⟨mk, hmk⟩ : ∃ m, mrkT k = m := ⟨_, rfl⟩
    rw [hL, hI, hmk] at HB HS0 ⊢
    clear hL hI hmk hD hl h hv he hA
    go_enter Tryz.func67, Tryz.ntmps67
    go_wp2_with fail
    refine (unhide HB _ (unhide HS0)).mono ?_
    rintro e w1 ⟨rfl, a1⟩
    have HZ := hide a1.wrote
    clear a1
    go_wp2
    refine bodyPost_end (res0 rfl _ _) rfl ?_
    exact ⟨rfl, unhide HZ⟩
  by_cases e3 : kd = 3
  · subst e3
    rw [dolOf_3] at hl ⊢
    have htl : t.length ≤ 10000 := by simp at hl; omega
    unfold penC at HS0 ⊢
    obtain ⟨L, hL⟩ : ∃ L, penL k = L := ⟨_, rfl⟩
    obtain ⟨I, hI⟩ : ∃ I, penI k = I := ⟨_, rfl⟩
    obtain ⟨mk, hmk⟩ : ∃ m, mrkT k = m := ⟨_, rfl⟩
    rw [hL, hI, hmk] at HS0 ⊢
    clear hL hI hmk hl h hv he hA
    go_enter Tryz.func67, Tryz.ntmps67
    go_wp2_with fail
    refine ((unhide HS0).put3 [36, 40] t [41] (by first | rfl | simp) (by simp) (by omega) (by simp) (by omega)).mono ?_
    rintro e w1 ⟨rfl, a1⟩
    have HZ := hide a1.wrote
    clear a1
    go_wp2
    refine bodyPost_end (res0 rfl _ _) rfl ?_
    exact ⟨rfl, unhide HZ⟩
  by_cases e4 : kd = 4
  · subst e4
    rw [dolOf_4] at hl ⊢
    have htl : t.length ≤ 10000 := by simp at hl; omega
    unfold penC at HS0 ⊢
    obtain ⟨L, hL⟩ : ∃ L, penL k = L := ⟨_, rfl⟩
    obtain ⟨I, hI⟩ : ∃ I, penI k = I := ⟨_, rfl⟩
    obtain ⟨mk, hmk⟩ : ∃ m, mrkT k = m := ⟨_, rfl⟩
    rw [hL, hI, hmk] at HS0 ⊢
    clear hL hI hmk hl h hv he hA
    go_enter Tryz.func67, Tryz.ntmps67
    go_wp2_with fail
    refine ((unhide HS0).put3 [36, 40, 40] t [41, 41] (by first | rfl | simp) (by simp) (by omega) (by simp) (by omega)).mono ?_
    rintro e w1 ⟨rfl, a1⟩
    have HZ := hide a1.wrote
    clear a1
    go_wp2
    refine bodyPost_end (res0 rfl _ _) rfl ?_
    exact ⟨rfl, unhide HZ⟩
  rw [dolOf_no e2 e3 e4] at hl ⊢
  have b2 : (kd == 2) = false := by rw [beq_eq_false_iff_ne]; exact e2
  have b3 : (kd == 3) = false := by rw [beq_eq_false_iff_ne]; exact e3
  have b4 : (kd == 4) = false := by rw [beq_eq_false_iff_ne]; exact e4
  unfold penC at HS0 ⊢
  obtain ⟨L, hL⟩ : ∃ L, penL k = L := ⟨_, rfl⟩
  obtain ⟨I, hI⟩ : ∃ I, penI k = I := ⟨_, rfl⟩
  obtain ⟨mk, hmk⟩ : ∃ m, mrkT k = m := ⟨_, rfl⟩
  rw [hL, hI, hmk] at HS0 ⊢
  clear hL hI hmk hl h hv he hA e2 e3 e4
  go_enter Tryz.func67, Tryz.ntmps67
  go_wp2
  refine bodyPost_end (res0 rfl _ _) rfl ?_
  refine ⟨rfl, ?_⟩
  simpa using (unhide HS0).wrote
end Go.Proofs.YtnamfjbfcbamjaaGreatDoor
namespace Go.Proofs.YtnamfjbfcbamjaaGreatDoor
open Go.RowKit
theorem prtOf_q {w : Nat} {k : Int} {t op c s d} (h : k ≠ 1) : prtOf w (.mk k t true op c s) d = mrkT w ++ d ++ mrkT w := by simp [prtOf, Prt.kind, Prt.quote, h]
theorem prtOf_n {w : Nat} {k : Int} {t op c s d} (h : k ≠ 1) : prtOf w (.mk k t false op c s) d = d := by simp [prtOf, Prt.kind, Prt.quote, h]
theorem prtOf_lq {w : Nat} {t op c s d} : prtOf w (.mk 1 t true op c s) d = litT w t := by simp [prtOf, Prt.kind, Prt.quote, Prt.text]
theorem prtOf_ln {w : Nat} {t op c s d} : prtOf w (.mk 1 t false op c s) d = t := by simp [prtOf, Prt.kind, Prt.quote, Prt.text]
theorem bslL_ge (E : List UInt8) : ∀ l, l.length ≤ (bslL E l).length
  | [] => by simp
  | c :: r => by
    have := bslL_ge E r
    rw [bslL]
    split <;> simp <;> omega
theorem qBody_ge : ∀ l : List UInt8, l.length ≤ (qBody l).length
  | [] => by simp
  | c :: r => by
    have := qBody_ge r
    by_cases h : c = 39
    · subst h; rw [qBody_39]; simp; omega
    · rw [qBody_ne h]; simp; omega
theorem litT_ge (k : Nat) (t : List UInt8) : t.length ≤ (litT k t).length := by
  unfold litT quoteL
  split
  · have := qBody_ge t
    simp; omega
  · have := bslL_ge [36, 34, 92, 96] t
    simp; omega
  · split
    · rename_i h; simp [h]
    · exact bslL_ge _ t
  · exact bslL_ge _ t
set_option maxRecDepth 20000 in
set_option maxHeartbeats 8000000 in
theorem ppart_any {N : Nat} (HW : WdN N) (k : Nat) (hk : k < 4) (kd : Int) (t : List UInt8) (q : Bool) (op : Int) (c : Bool) (v : Value) (s : List Prt) (A : Nat → Prop) (w : World) (b : Nat) (X : Nat → Prop) (full : List UInt8)
    (he : WEnv w) (hb3 : 3 ≤ b) (h : PgC w b X full) (hv : WAt w A v s) (hA : ∀ j, A j → j < w.heap.size ∧ ¬ X j) (hN : SizeOf.sizeOf s ≤ N) (hl : (full ++ prtT k (.mk kd t q op c s)).length ≤ 10000) :
    Calls Tryz.prog 51 #[.pointer (some ⟨b, 0, none⟩), .agg #[.int .i64 kd, .string (BA t), .bool q, .int .i64 op, .bool c, v], .agg (penC k)] w fun e w' => e = .returned (.tuple #[]) ∧ Wrote w b X (full ++ prtT k (.mk kd t q op c s)) w' := by
  have hfl : full.length ≤ 10000 := by simp at hl; omega
  unfold prtT at hl ⊢
  rw [dolT] at hl ⊢
  by_cases e1 : kd = 1
  · subst e1
    cases q
    · rw [prtOf_ln] at hl ⊢
      have ht : t.length ≤ 10000 := by simp at hl; omega
      have HS0 := hide (Sd.two h hb3 #[.int .i64 1, .string (BA t), .bool false, .int .i64 op, .bool c, v] (penC k))
      unfold penC at HS0 ⊢
      obtain ⟨L, hL⟩ : ∃ L, penL k = L := ⟨_, rfl⟩
      obtain ⟨I, hI⟩ : ∃ I, penI k = I := ⟨_, rfl⟩
      obtain ⟨mk, hmk⟩ : ∃ m, mrkT k = m := ⟨_, rfl⟩
      rw [hL, hI, hmk] at HS0 ⊢
      clear hL hI hmk hl h hv he hA
      go_enter Tryz.func51, Tryz.ntmps51
      go_wp2_with fail
      refine ((unhide HS0).put t (by first | rfl | simp) (by omega)).mono ?_
      rintro e w1 ⟨rfl, a1⟩
      have HZ := hide a1.wrote
      clear a1
      go_wp2
      refine bodyPost_end (res0 rfl _ _) rfl ?_
      exact ⟨rfl, unhide HZ⟩
    · rw [prtOf_lq] at hl ⊢
      have hll := litT_len k t
      have ht : t.length ≤ 10000 := by
        have := litT_ge k t
        simp at hl
        omega
      have HS0 := hide (Sd.two h hb3 #[.int .i64 1, .string (BA t), .bool true, .int .i64 op, .bool c, v] (penC k))
      have HLC : Hid (∀ wi, WEnv wi → Calls Tryz.prog (penL k) #[.string (BA t)] wi fun e w' => e = .returned (.string (BA (litT k t))) ∧ Below wi.heap.size wi w') := hide (fun wi hw => penL_any k hk t wi hw ht)
      have HE := hide he
      obtain ⟨D, hD⟩ : ∃ D, litT k t = D := ⟨_, rfl⟩
      rw [hD] at HLC hll ⊢
      clear hl h hv hA he hD
      match k, hk with
      | 0, _ =>
        have HS1 : Hid (Sd w b X 2 (K2 w.heap.size #[.int .i64 1, .string (BA t), .bool true, .int .i64 op, .bool c, v] #[.func (Fn.func 34) #[] #[], .string ⟨#[34]⟩, .func (Fn.func 35) #[] #[]]) full ((w.alloc (.cells #[.int .i64 1, .string (BA t), .bool true, .int .i64 op, .bool c, v] 37)).alloc (.cells #[.func (Fn.func 34) #[] #[], .string ⟨#[34]⟩, .func (Fn.func 35) #[] #[]] 45))) := HS0
        have HL1 : Hid (∀ wi, WEnv wi → Calls Tryz.prog 34 #[.string (BA t)] wi fun e w' => e = .returned (.string (BA D)) ∧ Below wi.heap.size wi w') := HLC
        clear HS0 HLC
        show Calls Tryz.prog 51 #[.pointer (some ⟨b, 0, none⟩), .agg #[.int .i64 1, .string (BA t), .bool true, .int .i64 op, .bool c, v], .agg #[.func (Fn.func 34) #[] #[], .string ⟨#[34]⟩, .func (Fn.func 35) #[] #[]]] w fun e w' => e = .returned (.tuple #[]) ∧ Wrote w b X (full ++ D) w'
        go_enter Tryz.func51, Tryz.ntmps51
        go_wp2_with fail
        refine (unhide HL1 _ ((unhide HS1).env (unhide HE))).mono ?_
        rintro e w1 ⟨rfl, b1⟩
        have HS2 := hide ((unhide HS1).below b1)
        clear b1
        go_wp2_with fail
        refine ((unhide HS2).put D (by first | rfl | simp) (by omega)).mono ?_
        rintro e w2 ⟨rfl, a2⟩
        have HZ := hide a2.wrote
        clear a2
        go_wp2
        refine bodyPost_end (res0 rfl _ _) rfl ?_
        exact ⟨rfl, unhide HZ⟩
      | 1, _ =>
        have HS1 : Hid (Sd w b X 2 (K2 w.heap.size #[.int .i64 1, .string (BA t), .bool true, .int .i64 op, .bool c, v] #[.func (Fn.func 72) #[] #[], .string ⟨#[34]⟩, .func (Fn.func 38) #[] #[]]) full ((w.alloc (.cells #[.int .i64 1, .string (BA t), .bool true, .int .i64 op, .bool c, v] 37)).alloc (.cells #[.func (Fn.func 72) #[] #[], .string ⟨#[34]⟩, .func (Fn.func 38) #[] #[]] 45))) := HS0
        have HL1 : Hid (∀ wi, WEnv wi → Calls Tryz.prog 72 #[.string (BA t)] wi fun e w' => e = .returned (.string (BA D)) ∧ Below wi.heap.size wi w') := HLC
        clear HS0 HLC
        show Calls Tryz.prog 51 #[.pointer (some ⟨b, 0, none⟩), .agg #[.int .i64 1, .string (BA t), .bool true, .int .i64 op, .bool c, v], .agg #[.func (Fn.func 72) #[] #[], .string ⟨#[34]⟩, .func (Fn.func 38) #[] #[]]] w fun e w' => e = .returned (.tuple #[]) ∧ Wrote w b X (full ++ D) w'
        go_enter Tryz.func51, Tryz.ntmps51
        go_wp2_with fail
        refine (unhide HL1 _ ((unhide HS1).env (unhide HE))).mono ?_
        rintro e w1 ⟨rfl, b1⟩
        have HS2 := hide ((unhide HS1).below b1)
        clear b1
        go_wp2_with fail
        refine ((unhide HS2).put D (by first | rfl | simp) (by omega)).mono ?_
        rintro e w2 ⟨rfl, a2⟩
        have HZ := hide a2.wrote
        clear a2
        go_wp2
        refine bodyPost_end (res0 rfl _ _) rfl ?_
        exact ⟨rfl, unhide HZ⟩
      | 2, _ =>
        have HS1 : Hid (Sd w b X 2 (K2 w.heap.size #[.int .i64 1, .string (BA t), .bool true, .int .i64 op, .bool c, v] #[.func (Fn.func 73) #[] #[], .string ⟨#[]⟩, .func (Fn.func 38) #[] #[]]) full ((w.alloc (.cells #[.int .i64 1, .string (BA t), .bool true, .int .i64 op, .bool c, v] 37)).alloc (.cells #[.func (Fn.func 73) #[] #[], .string ⟨#[]⟩, .func (Fn.func 38) #[] #[]] 45))) := HS0
        have HL1 : Hid (∀ wi, WEnv wi → Calls Tryz.prog 73 #[.string (BA t)] wi fun e w' => e = .returned (.string (BA D)) ∧ Below wi.heap.size wi w') := HLC
        clear HS0 HLC
        show Calls Tryz.prog 51 #[.pointer (some ⟨b, 0, none⟩), .agg #[.int .i64 1, .string (BA t), .bool true, .int .i64 op, .bool c, v], .agg #[.func (Fn.func 73) #[] #[], .string ⟨#[]⟩, .func (Fn.func 38) #[] #[]]] w fun e w' => e = .returned (.tuple #[]) ∧ Wrote w b X (full ++ D) w'
        go_enter Tryz.func51, Tryz.ntmps51
        go_wp2_with fail
        refine (unhide HL1 _ ((unhide HS1).env (unhide HE))).mono ?_
        rintro e w1 ⟨rfl, b1⟩
        have HS2 := hide ((unhide HS1).below b1)
        clear b1
        go_wp2_with fail
        refine ((unhide HS2).put D (by first | rfl | simp) (by omega)).mono ?_
        rintro e w2 ⟨rfl, a2⟩
        have HZ := hide a2.wrote
        clear a2
        go_wp2
        refine bodyPost_end (res0 rfl _ _) rfl ?_
        exact ⟨rfl, unhide HZ⟩
      | 3, _ =>
        have HS1 : Hid (Sd w b X 2 (K2 w.heap.size #[.int .i64 1, .string (BA t), .bool true, .int .i64 op, .bool c, v] #[.func (Fn.func 37) #[] #[], .string ⟨#[]⟩, .func (Fn.func 38) #[] #[]]) full ((w.alloc (.cells #[.int .i64 1, .string (BA t), .bool true, .int .i64 op, .bool c, v] 37)).alloc (.cells #[.func (Fn.func 37) #[] #[], .string ⟨#[]⟩, .func (Fn.func 38) #[] #[]] 45))) := HS0
        have HL1 : Hid (∀ wi, WEnv wi → Calls Tryz.prog 37 #[.string (BA t)] wi fun e w' => e = .returned (.string (BA D)) ∧ Below wi.heap.size wi w') := HLC
        clear HS0 HLC
        show Calls Tryz.prog 51 #[.pointer (some ⟨b, 0, none⟩), .agg #[.int .i64 1, .string (BA t), .bool true, .int .i64 op, .bool c, v], .agg #[.func (Fn.func 37) #[] #[], .string ⟨#[]⟩, .func (Fn.func 38) #[] #[]]] w fun e w' => e = .returned (.tuple #[]) ∧ Wrote w b X (full ++ D) w'
        go_enter Tryz.func51, Tryz.ntmps51
        go_wp2_with fail
        refine (unhide HL1 _ ((unhide HS1).env (unhide HE))).mono ?_
        rintro e w1 ⟨rfl, b1⟩
        have HS2 := hide ((unhide HS1).below b1)
        clear b1
        go_wp2_with fail
        refine ((unhide HS2).put D (by first | rfl | simp) (by omega)).mono ?_
        rintro e w2 ⟨rfl, a2⟩
        have HZ := hide a2.wrote
        clear a2
        go_wp2
        refine bodyPost_end (res0 rfl _ _) rfl ?_
        exact ⟨rfl, unhide HZ⟩
  · have b1 : (kd == 1) = false := by rw [beq_eq_false_iff_ne]; exact e1
    have b1' : (kd != 1) = true := by rw [bne, b1]; rfl
    cases q
    · rw [prtOf_n e1] at hl ⊢
      have HS0 := hide (Sd.two h hb3 #[.int .i64 kd, .string (BA t), .bool false, .int .i64 op, .bool c, v] (penC k))
      have HB : Hid (∀ wi, Sd w b X 2 (K2 w.heap.size #[.int .i64 kd, .string (BA t), .bool false, .int .i64 op, .bool c, v] (penC k)) full wi → Calls Tryz.prog 67 #[.pointer (some ⟨b, 0, none⟩), .agg #[.int .i64 kd, .string (BA t), .bool false, .int .i64 op, .bool c, v], .agg (penC k)] wi fun e w' => e = .returned (.tuple #[]) ∧ Sd w b X 2 (K2 w.heap.size #[.int .i64 kd, .string (BA t), .bool false, .int .i64 op, .bool c, v] (penC k)) (full ++ dolOf kd t op c (wrdT (nxtT k false op) s)) w') :=
        hide (fun wi hi => hi.go (fun Xi hp hx => pdollar_any HW k kd t false op c v s A wi b Xi full (hi.env he) hb3 hp (hi.wat hv hA) (hi.apart hA hx) hN hl))
      obtain ⟨D, hD⟩ : ∃ D, dolOf kd t op c (wrdT (nxtT k false op) s) = D := ⟨_, rfl⟩
      rw [hD] at HB ⊢
      unfold penC at HB
      unfold penC at HS0 ⊢
      obtain ⟨L, hL⟩ : ∃ L, penL k = L := ⟨_, rfl⟩
      obtain ⟨I, hI⟩ : ∃ I, penI k = I := ⟨_, rfl⟩
      obtain ⟨mk, hmk⟩ : ∃ m, mrkT k = m := ⟨_, rfl⟩
      rw [hL, hI, hmk] at HS0 HB ⊢
      clear hL hI hmk hl h hv he hA hD e1
      go_enter Tryz.func51, Tryz.ntmps51
      go_wp2_with fail
      refine (unhide HB _ (unhide HS0)).mono ?_
      rintro e w1 ⟨rfl, a1⟩
      have HZ := hide a1.wrote
      clear a1
      go_wp2
      refine bodyPost_end (res0 rfl _ _) rfl ?_
      exact ⟨rfl, unhide HZ⟩
    · rw [prtOf_q e1] at hl ⊢
      have HS0 := hide (Sd.two h hb3 #[.int .i64 kd, .string (BA t), .bool true, .int .i64 op, .bool c, v] (penC k))
      have hml := mrkT_len k
      have HB : Hid (∀ wi, Sd w b X 2 (K2 w.heap.size #[.int .i64 kd, .string (BA t), .bool true, .int .i64 op, .bool c, v] (penC k)) (full ++ mrkT k) wi → Calls Tryz.prog 67 #[.pointer (some ⟨b, 0, none⟩), .agg #[.int .i64 kd, .string (BA t), .bool true, .int .i64 op, .bool c, v], .agg (penC k)] wi fun e w' => e = .returned (.tuple #[]) ∧ Sd w b X 2 (K2 w.heap.size #[.int .i64 kd, .string (BA t), .bool true, .int .i64 op, .bool c, v] (penC k)) (full ++ mrkT k ++ dolOf kd t op c (wrdT (nxtT k true op) s)) w') :=
        hide (fun wi hi => hi.go (fun Xi hp hx => pdollar_any HW k kd t true op c v s A wi b Xi (full ++ mrkT k) (hi.env he) hb3 hp (hi.wat hv hA) (hi.apart hA hx) hN (by simp at hl ⊢; omega)))
      have hdl : (dolOf kd t op c (wrdT (nxtT k true op) s)).length ≤ 10000 := by simp at hl; omega
      obtain ⟨D, hD⟩ : ∃ D, dolOf kd t op c (wrdT (nxtT k true op) s) = D := ⟨_, rfl⟩
      rw [hD] at HB hdl ⊢
      unfold penC at HB
      unfold penC at HS0 ⊢
      obtain ⟨L, hL⟩ : ∃ L, penL k = L := ⟨_, rfl⟩
      obtain ⟨I, hI⟩ : ∃ I, penI k = I := ⟨_, rfl⟩
      obtain ⟨mk, hmk⟩ : ∃ m, mrkT k = m := ⟨_, rfl⟩
      rw [hL, hI, hmk] at HB
      rw [hL, hI, hmk] at HS0 ⊢
      rw [hmk] at hml
      clear hL hI hmk hl h hv he hA hD e1
      go_enter Tryz.func51, Tryz.ntmps51
      go_wp2_with fail
      refine ((unhide HS0).put mk (by first | rfl | simp) (by omega)).mono ?_
      rintro e w1 ⟨rfl, a1⟩
      have HS1 := hide a1
      clear a1
      have p0 : w1.cell? ⟨w.heap.size, 0, none⟩ = some (.int .i64 kd) := (unhide HS1).part.cell 0 rfl
      have p1 : w1.cell? ⟨w.heap.size, 1, none⟩ = some (.string (BA t)) := (unhide HS1).part.cell 1 rfl
      have p2 : w1.cell? ⟨w.heap.size, 2, none⟩ = some (.bool true) := (unhide HS1).part.cell 2 rfl
      have p3 : w1.cell? ⟨w.heap.size, 3, none⟩ = some (.int .i64 op) := (unhide HS1).part.cell 3 rfl
      have p4 : w1.cell? ⟨w.heap.size, 4, none⟩ = some (.bool c) := (unhide HS1).part.cell 4 rfl
      have p5 : w1.cell? ⟨w.heap.size, 5, none⟩ = some v := (unhide HS1).part.cell 5 rfl
      have n0 : w1.cell? ⟨w.heap.size + 1, 0, none⟩ = some (.func (Fn.func L) #[] #[]) := (unhide HS1).pen.cell 0 rfl
      have n1 : w1.cell? ⟨w.heap.size + 1, 1, none⟩ = some (.string (BA mk)) := (unhide HS1).pen.cell 1 rfl
      have n2 : w1.cell? ⟨w.heap.size + 1, 2, none⟩ = some (.func (Fn.func I) #[] #[]) := (unhide HS1).pen.cell 2 rfl
      go_wp2_with fail
      refine (unhide HB _ (unhide HS1)).mono ?_
      rintro e w2 ⟨rfl, a2⟩
      have HS2 := hide a2
      clear a2 p0 p1 p2 p3 p4 p5 n0 n1 n2
      have p0 : w2.cell? ⟨w.heap.size, 0, none⟩ = some (.int .i64 kd) := (unhide HS2).part.cell 0 rfl
      have p1 : w2.cell? ⟨w.heap.size, 1, none⟩ = some (.string (BA t)) := (unhide HS2).part.cell 1 rfl
      have p2 : w2.cell? ⟨w.heap.size, 2, none⟩ = some (.bool true) := (unhide HS2).part.cell 2 rfl
      have p3 : w2.cell? ⟨w.heap.size, 3, none⟩ = some (.int .i64 op) := (unhide HS2).part.cell 3 rfl
      have p4 : w2.cell? ⟨w.heap.size, 4, none⟩ = some (.bool c) := (unhide HS2).part.cell 4 rfl
      have p5 : w2.cell? ⟨w.heap.size, 5, none⟩ = some v := (unhide HS2).part.cell 5 rfl
      have n0 : w2.cell? ⟨w.heap.size + 1, 0, none⟩ = some (.func (Fn.func L) #[] #[]) := (unhide HS2).pen.cell 0 rfl
      have n1 : w2.cell? ⟨w.heap.size + 1, 1, none⟩ = some (.string (BA mk)) := (unhide HS2).pen.cell 1 rfl
      have n2 : w2.cell? ⟨w.heap.size + 1, 2, none⟩ = some (.func (Fn.func I) #[] #[]) := (unhide HS2).pen.cell 2 rfl
      go_wp2_with fail
      refine ((unhide HS2).put mk (by first | rfl | simp) (by simp; omega)).mono ?_
      rintro e w3 ⟨rfl, a3⟩
      have HZ := hide a3.wrote
      clear a3 p0 p1 p2 p3 p4 p5 n0 n1 n2
      go_wp2
      refine bodyPost_end (res0 rfl _ _) rfl ?_
      refine ⟨rfl, ?_⟩
      simpa only [List.append_assoc] using unhide HZ
end Go.Proofs.YtnamfjbfcbamjaaGreatDoor
namespace Go.Proofs.YtnamfjbfcbamjaaGreatDoor
open Go.RowKit
theorem wrdT_app (k : Nat) : ∀ a b : List Prt, wrdT k (a ++ b) = wrdT k a ++ wrdT k b
  | [], b => by rw [wrdT_nil]; rfl
  | p :: r, b => by rw [List.cons_append, wrdT_cons, wrdT_cons, wrdT_app k r b, List.append_assoc]
theorem wrdT_take (k : Nat) (l : List Prt) (j : Nat) : wrdT k l = wrdT k (l.take j) ++ wrdT k (l.drop j) := by rw [← wrdT_app, List.take_append_drop]
theorem wrdT_one (k : Nat) (l : List Prt) (j : Nat) (p : Prt) (h : l[j]? = some p) : wrdT k (l.take (j + 1)) = wrdT k (l.take j) ++ prtT k p := by
  obtain ⟨h1, h2⟩ := List.getElem?_eq_some_iff.1 h
  rw [List.take_succ_eq_append_getElem h1, h2, wrdT_app, wrdT_cons, wrdT_nil, List.append_nil]
def K1 (n : Nat) (ds : Array Value) : Nat → TypeId → Array Value → Prop := fun q t x => q = n ∧ t = 45 ∧ x = ds
theorem Sd.one {w : World} {b : Nat} {X : Nat → Prop} {full : List UInt8} (h : PgC w b X full) (hb3 : 3 ≤ b) (ds : Array Value) : Sd w b X 1 (K1 w.heap.size ds) full (w.alloc (.cells ds 45)) := by
  refine Sd.start h hb3 ((Below.refl _ w).alloc (Nat.le_refl _) _) (by simp) ?_
  rintro q t x ⟨rfl, rfl, rfl⟩
  exact ⟨Blk.new w _ _, by omega, by omega⟩
theorem Sd.row {w wi : World} {b m : Nat} {X : Nat → Prop} {K : Nat → TypeId → Array Value → Prop} {full : List UInt8} (h : Sd w b X m K full wi) : ∃ ba bc, ∃ l : List UInt8, wi.cell? ⟨b, 0, none⟩ = some (.slice ba l.length bc) ∧ b < wi.heap.size ∧ (4096 < l.length → ∀ t, Sd w b X m K (full ++ t) wi) := by
  obtain ⟨h1, h2, h3, Xi, ⟨l, hp, hc⟩, h5, h6⟩ := h
  have hlt := hp.lt
  obtain ⟨bv, g1, g2, g3⟩ := hp
  obtain ⟨ba, bc, rfl⟩ := own_len g2
  exact ⟨ba, bc, l, g1.cell 0 rfl, hlt, fun hl t => ⟨h1, h2, h3, Xi, ⟨l, ⟨_, g1, g2, g3⟩, hc.stop hl t⟩, h5, h6⟩⟩
set_option maxRecDepth 20000 in
set_option maxHeartbeats 8000000 in
theorem pword_step {N : Nat} (HW : WdN N) : WdN (N + 1) := by
  intro ps v A w b X full k hk hN he hb3 h hv hA hl
  obtain ⟨va, vc, rfl, hlen⟩ := hv.len
  have HS0 := hide (Sd.one h hb3 (penC k))
  have HPA : Hid (∀ wi W j p sv, Sd w b X 1 (K1 w.heap.size (penC k)) (full ++ wrdT k (ps.take j)) wi → Below wi.heap.size wi W → ps[j]? = some p → WAt wi A sv p.sub → Calls Tryz.prog 51 #[.pointer (some ⟨b, 0, none⟩), .agg #[.int .i64 p.kind, .string (BA p.text), .bool p.quote, .int .i64 p.op, .bool p.colon, sv], .agg (penC k)] W fun e w' => e = .returned (.tuple #[]) ∧ Sd w b X 1 (K1 w.heap.size (penC k)) (full ++ wrdT k (ps.take (j + 1))) w') := hide (fun wi W j p sv hi hb hp hsv => by
    have hj := hi.below hb
    have hsz := sub_lt p ps (List.mem_of_getElem? hp)
    have htot : ((full ++ wrdT k (ps.take j)) ++ prtT k p).length ≤ 10000 := by
      rw [List.append_assoc, ← wrdT_one k ps j p hp]
      rw [wrdT_take k ps (j + 1)] at hl
      simp at hl ⊢
      omega
    rw [wrdT_one k ps j p hp, ← List.append_assoc]
    refine hj.go (fun Xi hp' hx => ?_)
    have h9 := ppart_any HW k hk p.kind p.text p.quote p.op p.colon sv p.sub A W b Xi (full ++ wrdT k (ps.take j)) (hj.env he) hb3 hp' (hsv.below hb (fun j hj => Nat.lt_of_lt_of_le (hA j hj).1 (by have := hi.size; omega))) (hj.apart hA hx) (by omega)
    have hpm : Prt.mk p.kind p.text p.quote p.op p.colon p.sub = p := by cases p; rfl
    rw [hpm] at h9
    exact h9 htot)
  have HV := hide hv
  have HA := hide hA
  unfold penC at HPA HS0 ⊢
  obtain ⟨L, hL⟩ : ∃ L, penL k = L := ⟨_, rfl⟩
  obtain ⟨I, hI⟩ : ∃ I, penI k = I := ⟨_, rfl⟩
  obtain ⟨mk, hmk⟩ : ∃ m, mrkT k = m := ⟨_, rfl⟩
  rw [hL, hI, hmk] at HPA HS0 ⊢
  clear hL hI hmk hl h hv he hA hN
  go_enter Tryz.func32, Tryz.ntmps32
  go_wp2_with fail
  go_loopw [10] (fun i wr => ∃ j : Nat, j ≤ ps.length ∧ i = .int .i64 j ∧ Hid (Sd w b X 1 (K1 w.heap.size #[.func (Fn.func L) #[] #[], .string (BA mk), .func (Fn.func I) #[] #[]]) (full ++ wrdT k (ps.take j)) wr)) (fun i _ => ps.length - (intOf i).toNat)
  case atStart => exact ⟨0, Nat.zero_le _, rfl, hide (by rw [List.take_zero, wrdT_nil, List.append_nil]; exact unhide HS0)⟩
  case round =>
    clear HS0
    obtain ⟨j, hj, rfl, HSJ⟩ := hrel
    by_cases hlt : j < ps.length
    · obtain ⟨p, hp⟩ := get_ex hlt
      obtain ⟨ba, bc, l, crow, hbr, hstop⟩ := (unhide HSJ).row
      have hwat : WAt wr A (.slice va ps.length vc) ps := (unhide HSJ).wat (unhide HV) (unhide HA)
      obtain ⟨g, o, sv, had, hg, c0, c1, c2, c3, c4, c5, hsub⟩ := hwat.part hp
      have hgr : g < wr.heap.size := by have := (unhide HA g hg).1; have := (unhide HSJ).size; omega
      have hnb : Blk wr w.heap.size 45 #[.func (Fn.func L) #[] #[], .string (BA mk), .func (Fn.func I) #[] #[]] := (unhide HSJ).blk ⟨rfl, rfl, rfl⟩
      have n0 : wr.cell? ⟨w.heap.size, 0, none⟩ = some (.func (Fn.func L) #[] #[]) := hnb.cell 0 rfl
      have n1 : wr.cell? ⟨w.heap.size, 1, none⟩ = some (.string (BA mk)) := hnb.cell 1 rfl
      have n2 : wr.cell? ⟨w.heap.size, 2, none⟩ = some (.func (Fn.func I) #[] #[]) := hnb.cell 2 rfl
      have hnr := hnb.lt
      have hlt1 : (j : Int) < (ps.length : Int) := by omega
      obtain ⟨sa, sc, rfl, _⟩ := hsub.len
      have HPJ : Hid (∀ ob, Calls Tryz.prog 51 #[.pointer (some ⟨b, 0, none⟩), .agg #[.int .i64 p.kind, .string (BA p.text), .bool p.quote, .int .i64 p.op, .bool p.colon, .slice sa p.sub.length sc], .agg #[.func (Fn.func L) #[] #[], .string (BA mk), .func (Fn.func I) #[] #[]]] (wr.alloc ob) fun e w' => e = .returned (.tuple #[]) ∧ Sd w b X 1 (K1 w.heap.size #[.func (Fn.func L) #[] #[], .string (BA mk), .func (Fn.func I) #[] #[]]) (full ++ wrdT k (ps.take (j + 1))) w') := hide (fun ob => unhide HPA wr _ j p _ (unhide HSJ) ((Below.refl _ wr).alloc (Nat.le_refl _) ob) hp hsub)
      subst had
      by_cases hbig : 4096 < l.length
      · have HZ : Hid (∀ ob, Wrote w b X (full ++ wrdT k ps) (wr.alloc ob)) := hide (fun ob => by
          have := ((hstop hbig (wrdT k (ps.drop j))).below ((Below.refl _ wr).alloc (Nat.le_refl _) ob)).wrote
          rwa [List.append_assoc, ← wrdT_take] at this)
        have hbi : (4096 : Int) < (l.length : Int) := by omega
        clear hp hstop hwat hsub hnb HPJ HSJ hbig
        go_wp2
        refine bodyPost_ret (res0 rfl _ _) rfl ?_
        exact ⟨rfl, unhide HZ _⟩
      · have hbi : ¬ (4096 : Int) < (l.length : Int) := by omega
        clear hp hstop hwat hsub hnb HSJ hbig
        go_wp2_with fail
        refine (unhide HPJ _).mono ?_
        rintro e w3 ⟨rfl, a3⟩
        have HD := hide a3
        clear a3
        go_wp2
        go_roundw
        case rel => exact ⟨j + 1, by omega, by go_num, HD⟩
        case measure => simp [intOf]; omega
    · have hje : ¬ (j : Int) < (ps.length : Int) := by omega
      have HZ : Hid (Wrote w b X (full ++ wrdT k ps) wr) := hide (by
        have := (unhide HSJ).wrote
        rwa [List.take_of_length_le (by omega)] at this)
      go_wp2
      refine bodyPost_end (res0 rfl _ _) rfl ?_
      exact ⟨rfl, unhide HZ⟩
theorem pword_all : ∀ N : Nat, WdN N
  | 0 => fun ps _ _ _ _ _ _ _ _ hN => absurd hN (by cases ps <;> simp)
  | N + 1 => pword_step (pword_all N)
end Go.Proofs.YtnamfjbfcbamjaaGreatDoor

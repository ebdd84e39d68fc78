/-
  The document's part and written of any word.
  What is wrong with a text has a number other than 0.
  Package word: Print and PrintHere of any word.
-/
import Derived.Test.YtnamfjbfcbamjaaGreatDoorP20
import Derived.Test.YtnamfjbfcbamjaaGreatDoorP21
import Derived.Test.YtnamfjbfcbamjaaGreatDoorP26
import Derived.Test.YtnamfjbfcbamjaaGreatDoorP06
import Derived.Test.YtnamfjbfcbamjaaGreatDoorP12
namespace Go.Proofs.YtnamfjbfcbamjaaGreatDoor
open Go.RowKit
theorem rpart_any {N : Nat} (HW : RWdN N) (k y : Nat) (hw : wayR k y) (kd : Int) (t : List UInt8) (q : Bool) (op : Int) (c : Bool) (v : Value) (s : List Prt) (A : Nat → Prop) (w : World) (hv : WAt w A v s) (hA : ∀ j, A j → j < w.heap.size) (hN : SizeOf.sizeOf s ≤ N) (hz : tszP (.mk kd t q op c s) ≤ 1000) :
    Calls Tryz.prog 36 #[.agg #[.int .i64 kd, .string (BA t), .bool q, .int .i64 op, .bool c, v], .int .i64 (y : Int)] w fun e w' => ∃ a, e = .returned (.string (BA a)) ∧ Below w.heap.size w w' ∧ (ShP (.mk kd t q op c s) → a = prtT k (.mk kd t q op c s)) ∧ a.length ≤ 9 * tszP (.mk kd t q op c s) := by
  have hz' : 1 + t.length + tszL s ≤ 1000 := by rw [tszP] at hz; exact hz
  have ht : t.length ≤ 10000 := by omega
  by_cases h1 : kd = 1
  · subst h1
    cases q
    · exact rpart_1f t op c v s w k y
    · exact rpart_1t t op c v s w k y hw ht
  by_cases h2 : kd = 2
  · subst h2
    by_cases hlo : op < 0
    · exact rpart_lo t q op c v s w k y hlo
    by_cases hhi : 9 < op
    · exact rpart_hi t q op c v s w k y hhi
    obtain ⟨mb, hmb⟩ : ∃ mb, mrkB k q = mb := ⟨_, rfl⟩
    by_cases hd : 2 ≤ op
    · have HWR : Hid (∀ W, Below w.heap.size w W → Calls Tryz.prog 22 #[v, .int .i64 (nxtR y q op : Int)] W fun e w' => ∃ s', e = .returned (.string (BA s')) ∧ Below W.heap.size W w' ∧ (ShA s → s' = wrdT (nxtT k q op) s) ∧ s'.length ≤ 9 * tszL s) := hide (fun W hb => HW s v A W _ _ (nxtR_way hw q op) hN (hv.below hb hA) (fun j hj => Nat.lt_of_lt_of_le (hA j hj) hb.size) (by omega))
      cases c
      · exact rpart_df t q op hd (by omega) v s w k y _ mb (hide hw) (hide hmb) ht HWR (hide rfl) (by omega)
      · exact rpart_dt t q op hd (by omega) v s w k y _ mb (hide hw) (hide hmb) ht HWR (hide rfl) (by omega)
    · have h01 : op = 0 ∨ op = 1 := by omega
      rcases h01 with rfl | rfl
      · cases c
        · exact rpart_0f t q v s w k y mb (hide hw) (hide hmb) ht
        · exact rpart_0t t q v s w k y mb (hide hw) (hide hmb) ht
      · cases c
        · exact rpart_o1f t q v s w k y mb (hide hw) (hide hmb) ht
        · exact rpart_o1t t q v s w k y mb (hide hw) (hide hmb) ht
  obtain ⟨mb, hmb⟩ : ∃ mb, mrkB k q = mb := ⟨_, rfl⟩
  by_cases h3 : kd = 3
  · subst h3
    exact rpart_3 t q op c v s w k y mb (hide hw) (hide hmb) ht
  by_cases h4 : kd = 4
  · subst h4
    exact rpart_4 t q op c v s w k y mb (hide hw) (hide hmb) ht
  exact rpart_no kd t q op c v s w k y h1 h2 h3 h4
theorem tszL_app : ∀ a b : List Prt, tszL (a ++ b) = tszL a + tszL b
  | [], b => by rw [tszL_nil]; simp
  | p :: r, b => by rw [List.cons_append, tszL_cons, tszL_cons, tszL_app r b]; omega
theorem tszL_take (l : List Prt) (j : Nat) : tszL (l.take j) ≤ tszL l := by
  have h : tszL l = tszL (l.take j) + tszL (l.drop j) := by rw [← tszL_app, List.take_append_drop]
  omega
theorem tszL_one (l : List Prt) (j : Nat) (p : Prt) (h : l[j]? = some p) : tszL (l.take (j + 1)) = tszL (l.take j) + tszP p := by
  obtain ⟨h1, h2⟩ := List.getElem?_eq_some_iff.1 h
  rw [List.take_succ_eq_append_getElem h1, h2, tszL_app, tszL_cons, tszL_nil]
  rfl
set_option maxRecDepth 20000 in
set_option maxHeartbeats 8000000 in
theorem rwritten_step {N : Nat} (HW : RWdN N) : RWdN (N + 1) := by
  intro ps v A w k y hw hN hv hA hz
  obtain ⟨va, vc, rfl, hlen⟩ := hv.len
  have HPA : Hid (∀ W j p sv, Below w.heap.size w W → ps[j]? = some p → WAt W A sv p.sub → Calls Tryz.prog 36 #[.agg #[.int .i64 p.kind, .string (BA p.text), .bool p.quote, .int .i64 p.op, .bool p.colon, sv], .int .i64 (y : Int)] W fun e w' => ∃ a, e = .returned (.string (BA a)) ∧ Below W.heap.size W w' ∧ (ShA ps → a = prtT k p) ∧ a.length ≤ 9 * tszP p ∧ a.length ≤ 9000) := hide (fun W j p sv hb hp hsv => by
    have hsz := sub_lt p ps (List.mem_of_getElem? hp)
    have hpz : tszP p ≤ 1000 := by
      have h1 := tszL_one ps j p hp
      have h2 := tszL_take ps (j + 1)
      omega
    have hpm : Prt.mk p.kind p.text p.quote p.op p.colon p.sub = p := by cases p; rfl
    have h9 := rpart_any HW k y hw p.kind p.text p.quote p.op p.colon sv p.sub A W hsv (fun j hj => Nat.lt_of_lt_of_le (hA j hj) hb.size) (by omega)
    rw [hpm] at h9
    refine (h9 hpz).mono ?_
    rintro e w' ⟨a, rfl, h1, h2, h3⟩
    exact ⟨a, rfl, h1, fun hs => h2 (hs p (List.mem_of_getElem? hp)), h3, by omega⟩)
  have HV := hide hv
  have HA := hide hA
  have HZ := hide hz
  clear hw hv hA hN
  go_enter Tryz.func22, Tryz.ntmps22
  go_wp2_with fail
  go_loopw [5, 6] (fun s i wr => ∃ (j : Nat) (acc : List UInt8), j ≤ ps.length ∧ i = .int .i64 j ∧ s = .string (BA acc) ∧ acc.length ≤ 9000 ∧ Hid (Below w.heap.size w wr) ∧ Hid (ShA ps → acc = wrdT k (ps.take j)) ∧ Hid (acc.length ≤ 9 * tszL (ps.take j))) (fun _ i _ => ps.length - (intOf i).toNat)
  case atStart => exact ⟨0, [], Nat.zero_le _, rfl, rfl, by simp, hide (Below.refl _ _), hide (fun _ => by rw [List.take_zero, wrdT_nil]), hide (by simp)⟩
  case round =>
    obtain ⟨j, acc, hj, rfl, rfl, hal, HB, HT, HL⟩ := hrel
    by_cases hlt : j < ps.length
    · obtain ⟨p, hp⟩ := get_ex hlt
      have hwat : WAt wr A (.slice va ps.length vc) ps := (unhide HV).below (unhide HB) (unhide HA)
      obtain ⟨g, o, sv, had, hg, c0, c1, c2, c3, c4, c5, hsub⟩ := hwat.part hp
      have hlt1 : (j : Int) < (ps.length : Int) := by omega
      obtain ⟨sa, sc, rfl, _⟩ := hsub.len
      have HPJ := hide (unhide HPA wr j p _ (unhide HB) hp hsub)
      have HP := hide hp
      subst had
      clear hp hwat hsub hg hz
      go_wp2_with fail
      refine (unhide HPJ).mono ?_
      rintro e w3 ⟨a, rfl, b3, ha1, ha2, ha3⟩
      have HB3 := hide ((unhide HB).trans (b3.mono (unhide HB).size))
      have hcat : BA acc ++ BA a = BA (acc ++ a) := by apply ba_ext; simp
      have HC := hide hcat
      have HT2 : Hid (ShA ps → acc ++ a = wrdT k (ps.take (j + 1))) := hide (fun hs => by rw [wrdT_one k ps j p (unhide HP), unhide HT hs, ha1 hs])
      have HL2 : Hid ((acc ++ a).length ≤ 9 * tszL (ps.take (j + 1))) := hide (by
        have h1 := tszL_one ps j p (unhide HP)
        have h2 := unhide HL
        rw [List.length_append]
        omega)
      have HL3 : Hid ((acc ++ a).length ≤ 9000) := hide (by
        have h1 := unhide HL2
        have h2 := tszL_take ps (j + 1)
        have h3 := unhide HZ
        omega)
      clear b3 ha1 ha2 hcat
      go_wp2
      go_roundw
      case rel => exact ⟨j + 1, acc ++ a, by omega, by go_num, congrArg Value.string (unhide HC), unhide HL3, HB3, HT2, HL2⟩
      case measure => simp [intOf]; omega
    · have hje : ¬ (j : Int) < (ps.length : Int) := by omega
      have HT2 : Hid (ShA ps → acc = wrdT k ps) := hide (by have := unhide HT; rwa [List.take_of_length_le (by omega)] at this)
      have HL2 : Hid (acc.length ≤ 9 * tszL ps) := hide (by have := unhide HL; rwa [List.take_of_length_le (by omega)] at this)
      go_wp2
      go_ret
      exact ⟨acc, rfl, unhide HB, unhide HT2, unhide HL2⟩
theorem rwritten_all : ∀ N : Nat, RWdN N
  | 0 => fun ps _ _ _ _ _ _ hN => absurd hN (by cases ps <;> simp)
  | N + 1 => rwritten_step (rwritten_all N)
end Go.Proofs.YtnamfjbfcbamjaaGreatDoor
namespace Go.Proofs.YtnamfjbfcbamjaaGreatDoor
def NzRd (r : Rd) : Prop := ∀ e, r = .err e → e ≠ 0
theorem word_nz {r : Rd} (h : NzRd r) : NzRd r.word := by
  intro e he
  cases r with
  | ok ps => cases he
  | err x => exact h e he
theorem ten_nz : (10 : Int) ≠ 0 := by decide
theorem brc_nz {rd : Nat → List UInt8 → Rd} (hrd : ∀ w t, NzRd (rd w t)) {w : Nat} {l : List UInt8} {e : Int} (h : brcL rd w l = .err e) : e ≠ 0 := by
  unfold brcL at h
  split at h
  · cases h
  split at h
  · cases h; exact ten_nz
  split at h
  · cases h
  split at h
  · cases h; exact ten_nz
  · split at h
    · rename_i e' he'
      cases h
      exact word_nz (hrd _ _) _ he'
    · cases h
theorem lng_nz {rd : Nat → List UInt8 → Rd} (hrd : ∀ w t, NzRd (rd w t)) {w : Nat} {l : List UInt8} {e : Int} (h : lngL rd w l = .err e) : e ≠ 0 := by
  unfold lngL at h
  split at h
  · cases h
  · exact brc_nz hrd h
theorem thn_nz {rd : Nat → List UInt8 → Rd} (hrd : ∀ w t, NzRd (rd w t)) {w : Nat} {c : UInt8} {u rest : List UInt8} {e : Int} (h : thnL rd w c u rest = .err e) : e ≠ 0 := by
  unfold thnL at h
  split at h
  · cases h
  split at h
  · cases h
  split at h
  · split at h
    · rename_i e' he'
      cases h
      exact word_nz (hrd _ _) _ he'
    · cases h
  split at h
  · split at h <;> cases h
  split at h
  · split at h
    · rename_i e' he'
      cases h
      exact lng_nz hrd he'
    · cases h
  split at h
  · cases h; exact ten_nz
  · cases h
theorem thi_nz {b : Bool} {rd : Nat → List UInt8 → Rd} (hrd : ∀ w t, NzRd (rd w t)) {w : Nat} {c : UInt8} {r : List UInt8} {e : Int} (h : thiL b rd w c r = .err e) : e ≠ 0 := by
  unfold thiL at h
  split at h
  · rename_i e' m' he'
    cases h
    have : NZ (.err e m') := by rw [← he']; exact (c_nz _).2.2 _ _ _
    exact this
  · exact thn_nz hrd h
theorem rd_nz (b : Bool) : ∀ (f w : Nat) (l : List UInt8), NzRd (rdL b f w l)
  | 0, w, l => by intro e h; rw [rdL] at h; cases h
  | f + 1, w, [] => by intro e h; rw [rdL] at h; cases h
  | f + 1, w, c :: r => by
    intro e h
    rw [rdL] at h
    split at h
    · rename_i e' he'
      cases h
      exact thi_nz (fun w t => rd_nz b f w t) he'
    · split at h
      · rename_i e' he'
        cases h
        exact rd_nz b f _ _ _ he'
      · cases h
theorem wrd_nz (b : Bool) (w : Nat) (l : List UInt8) : NzRd (wrdL b w l) := by
  intro e h
  unfold wrdL at h
  split at h
  · cases h; decide
  · exact word_nz (rd_nz b _ _ _) e h
end Go.Proofs.YtnamfjbfcbamjaaGreatDoor
namespace Go.Proofs.YtnamfjbfcbamjaaGreatDoor
open Go.RowKit
def prnL (y : Nat) (ps : List Prt) (t : List UInt8) : List UInt8 × Int :=
  match wrdL true y t with
  | .ok l => if sameW l ps then (t, 0) else ([], 1)
  | .err _ => ([], 1)
theorem prn_long (y : Nat) (ps : List Prt) (t : List UInt8) (h : 4096 < t.length) : prnL y ps t = ([], 1) := by
  have : wrdL true y t = .err 3 := by unfold wrdL; rw [if_pos h]
  unfold prnL
  rw [this]
theorem prn_cut {y : Nat} {ps : List Prt} {a b : List UInt8} (h : Cut a b) : prnL y ps a = prnL y ps b := by
  rcases h with h | ⟨h1, h2⟩
  · rw [h]
  · rw [prn_long y ps a h1, prn_long y ps b (by omega)]
set_option maxRecDepth 20000 in
set_option maxHeartbeats 8000000 in
theorem printed_0 (ps : List Prt) (v : Value) (A : Nat → Prop) (w : World) (he : WEnv w) (hv : WAt w A v ps) (hA : ∀ j, A j → j < w.heap.size) (hl : (wrdT 0 ps).length ≤ 10000) :
    Calls Tryz.prog 20 #[v, .agg #[.func (Fn.func 34) #[] #[], .string ⟨#[34]⟩, .func (Fn.func 35) #[] #[]], .func (Fn.func 6) #[] #[]] w fun e w' => e = .returned (.tuple #[.string (BA (prnL 0 ps (wrdT 0 ps)).1), .int .i64 (prnL 0 ps (wrdT 0 ps)).2]) ∧ Below w.heap.size w w' := by
  have h2w := he.two
  obtain ⟨va, vc, rfl, hlen⟩ := hv.len
  have HW2 : Hid (∀ o, Below w.heap.size w ((w.alloc o).alloc (.cells #[.slice none 0 0] 67)) ∧ PgC ((w.alloc o).alloc (.cells #[.slice none 0 0] 67)) (w.heap.size + 1) (fun k => k = w.heap.size + 1) []) := hide (fun o => by
    have hb : Below w.heap.size w ((w.alloc o).alloc (.cells #[.slice none 0 0] 67)) := ((Below.refl _ w).alloc (Nat.le_refl _) _).alloc (by simp) _
    refine ⟨hb, [], ⟨.slice none 0 0, ?_, ownB_nil _ _, rfl, by simp [Value.ownBlock], fun k e => by omega, fun k e => by simp; omega⟩, Cut.refl _⟩
    have := Blk.new (w.alloc o) 67 #[.slice none 0 0]
    rwa [show (w.alloc o).heap.size = w.heap.size + 1 by simp] at this)
  have HPW : Hid (∀ o, Calls Tryz.prog 32 #[.pointer (some ⟨w.heap.size + 1, 0, none⟩), .slice va ps.length vc, .agg #[.func (Fn.func 34) #[] #[], .string ⟨#[34]⟩, .func (Fn.func 35) #[] #[]]] ((w.alloc o).alloc (.cells #[.slice none 0 0] 67)) fun e w' => e = .returned (.tuple #[]) ∧ ∃ ba bc, ∃ out : List UInt8, w'.cell? ⟨w.heap.size + 1, 0, none⟩ = some (.slice ba out.length bc) ∧ (convert 49 9 (.slice ba out.length bc)).run Tryz.prog w' = .ok (.string (BA out)) w' ∧ Cut out (wrdT 0 ps) ∧ Below w.heap.size w w') := hide (fun o => by
    have hb := (unhide HW2 o).1
    have hA' : ∀ j, A j → j < ((w.alloc o).alloc (.cells #[.slice none 0 0] 67)).heap.size ∧ ¬ j = w.heap.size + 1 := fun j hj => ⟨by have := hA j hj; simp; omega, by have := hA j hj; omega⟩
    refine (pword_all _ ps _ A _ (w.heap.size + 1) _ [] 0 (by decide) (Nat.le_refl _) (he.below (hb.mono (by omega))) (by omega) (unhide HW2 o).2 (hv.below hb hA) hA' (by simpa using hl)).mono ?_
    rintro e w' ⟨rfl, X', ⟨out, hp, hc⟩, hg, hx⟩
    have hbl : Below w.heap.size w w' := hb.trans (hg.below (n := w.heap.size) (by simp; omega) (fun k e => by omega))
    obtain ⟨bv, h1, h2, h3⟩ := hp
    have ht := h2.text
    obtain ⟨ba, bc, rfl⟩ := own_len h2
    exact ⟨rfl, ba, bc, out, h1.cell 0 rfl, ht, by simpa using hc, hbl⟩)
  have HE := hide he
  have HV := hide hv
  have HA := hide hA
  have HL := hide hl
  clear he hv hA hl
  go_enter Tryz.func20, Tryz.ntmps20
  go_wp2_with fail
  refine (unhide HPW _).mono ?_
  rintro e w3 ⟨rfl, ba, bc, out, c0, hcv, hcut, hbl⟩
  have HB3 := hide hbl
  have HPR : Hid (prnL 0 ps (wrdT 0 ps) = prnL 0 ps out) := hide (prn_cut hcut).symm
  have hol := hcut.len
  have HPA := hide (parse_any out w3 ((unhide HE).below (hbl.mono (by omega))) (by have := unhide HL; omega))
  clear hcut hbl hol HW2 HPW
  cases hr : wrdL true 0 out with
  | err x =>
    have hx : x ≠ 0 := wrd_nz true 0 out x hr
    have hx1 : (x != 0) = true := by simpa using hx
    rw [hr] at HPA
    have HPR2 : Hid (prnL 0 ps (wrdT 0 ps) = ([], 1)) := hide (by rw [unhide HPR]; unfold prnL; rw [hr])
    clear hr HPR hx
    go_wp2_with fail
    refine (unhide HPA).mono ?_
    rintro e w4 ⟨v4, rfl, b4, hv4⟩
    have HB4 := hide ((unhide HB3).trans (b4.mono (unhide HB3).size))
    have hx2 : ((Rd.err x).errno != 0) = true := hx1
    clear b4 hv4
    go_wp2
    go_ret2
    rw [unhide HPR2]
    exact ⟨rfl, unhide HB4⟩
  | ok l =>
    rw [hr] at HPA
    have HPR2 : Hid (prnL 0 ps (wrdT 0 ps) = if sameW l ps then (out, 0) else ([], 1)) := hide (by rw [unhide HPR]; unfold prnL; rw [hr])
    clear hr HPR
    go_wp2_with fail
    refine (unhide HPA).mono ?_
    rintro e w4 ⟨v4, rfl, b4, hv4⟩
    have HB4 := hide ((unhide HB3).trans (b4.mono (unhide HB3).size))
    have HSM : Hid (Calls Tryz.prog 33 #[v4, .slice va ps.length vc] w4 fun e w' => e = .returned (.bool (sameW l ps)) ∧ Below w4.heap.size w4 w') := hide (same_any l ps v4 (.slice va ps.length vc) w4 _ A hv4 ((unhide HV).below (unhide HB4) (unhide HA)) (fun k h => h.2) (fun k e => by have := unhide HA k e; have := (unhide HB4).size; omega))
    have hx2 : ((Rd.ok l).errno != 0) = false := rfl
    clear b4 hv4
    obtain ⟨sm, hsm⟩ : ∃ sm, sameW l ps = sm := ⟨_, rfl⟩
    rw [hsm] at HSM HPR2
    clear hsm
    cases sm
    · go_wp2_with fail
      refine (unhide HSM).mono ?_
      rintro e w5 ⟨rfl, b5⟩
      have HB5 := hide ((unhide HB4).trans (b5.mono (unhide HB4).size))
      clear b5
      go_wp2
      go_ret2
      rw [unhide HPR2]
      exact ⟨rfl, unhide HB5⟩
    · go_wp2_with fail
      refine (unhide HSM).mono ?_
      rintro e w5 ⟨rfl, b5⟩
      have HB5 := hide ((unhide HB4).trans (b5.mono (unhide HB4).size))
      clear b5
      go_wp2
      go_ret2
      rw [unhide HPR2]
      exact ⟨rfl, unhide HB5⟩
set_option maxHeartbeats 4000000 in
theorem print_0 (ps : List Prt) (v : Value) (A : Nat → Prop) (w : World) (he : WEnv w) (hv : WAt w A v ps) (hA : ∀ j, A j → j < w.heap.size) (hl : (wrdT 0 ps).length ≤ 10000) :
    Calls Tryz.prog 12 #[v] w fun e w' => e = .returned (.tuple #[.string (BA (prnL 0 ps (wrdT 0 ps)).1), .int .i64 (prnL 0 ps (wrdT 0 ps)).2]) ∧ Below w.heap.size w w' := by
  have h2w := he.two
  have HP : Hid (∀ w1, Below w.heap.size w w1 → _) := hide (fun w1 (b1 : Below w.heap.size w w1) => printed_0 ps v A w1 (he.below (b1.mono (by omega))) (hv.below b1 hA) (fun j hj => Nat.lt_of_lt_of_le (hA j hj) b1.size) hl)
  obtain ⟨va, vc, rfl, hlen⟩ := hv.len
  obtain ⟨R, hR⟩ : ∃ R, prnL 0 ps (wrdT 0 ps) = R := ⟨_, rfl⟩
  rw [hR] at HP ⊢
  clear he hv hA hl hR
  go_enter Tryz.func12, Tryz.ntmps12
  go_wp2_with fail
  refine (plainPen_any _).mono ?_
  rintro e w1 ⟨rfl, b1⟩
  have HB := hide b1
  have HP1 := hide (unhide HP w1 b1)
  clear b1 HP
  go_wp2_with fail
  refine (unhide HP1).mono ?_
  rintro e w2 ⟨rfl, b2⟩
  have HB2 := hide ((unhide HB).trans (b2.mono (unhide HB).size))
  clear b2
  go_wp2
  go_ret2
  exact ⟨rfl, unhide HB2⟩
set_option maxRecDepth 20000 in
set_option maxHeartbeats 8000000 in
theorem printed_3 (ps : List Prt) (v : Value) (A : Nat → Prop) (w : World) (he : WEnv w) (hv : WAt w A v ps) (hA : ∀ j, A j → j < w.heap.size) (hl : (wrdT 3 ps).length ≤ 10000) :
    Calls Tryz.prog 20 #[v, .agg #[.func (Fn.func 37) #[] #[], .string ⟨#[]⟩, .func (Fn.func 38) #[] #[]], .func (Fn.func 8) #[] #[]] w fun e w' => e = .returned (.tuple #[.string (BA (prnL 5 ps (wrdT 3 ps)).1), .int .i64 (prnL 5 ps (wrdT 3 ps)).2]) ∧ Below w.heap.size w w' := by
  have h2w := he.two
  obtain ⟨va, vc, rfl, hlen⟩ := hv.len
  have HW2 : Hid (∀ o, Below w.heap.size w ((w.alloc o).alloc (.cells #[.slice none 0 0] 67)) ∧ PgC ((w.alloc o).alloc (.cells #[.slice none 0 0] 67)) (w.heap.size + 1) (fun k => k = w.heap.size + 1) []) := hide (fun o => by
    have hb : Below w.heap.size w ((w.alloc o).alloc (.cells #[.slice none 0 0] 67)) := ((Below.refl _ w).alloc (Nat.le_refl _) _).alloc (by simp) _
    refine ⟨hb, [], ⟨.slice none 0 0, ?_, ownB_nil _ _, rfl, by simp [Value.ownBlock], fun k e => by omega, fun k e => by simp; omega⟩, Cut.refl _⟩
    have := Blk.new (w.alloc o) 67 #[.slice none 0 0]
    rwa [show (w.alloc o).heap.size = w.heap.size + 1 by simp] at this)
  have HPW : Hid (∀ o, Calls Tryz.prog 32 #[.pointer (some ⟨w.heap.size + 1, 0, none⟩), .slice va ps.length vc, .agg #[.func (Fn.func 37) #[] #[], .string ⟨#[]⟩, .func (Fn.func 38) #[] #[]]] ((w.alloc o).alloc (.cells #[.slice none 0 0] 67)) fun e w' => e = .returned (.tuple #[]) ∧ ∃ ba bc, ∃ out : List UInt8, w'.cell? ⟨w.heap.size + 1, 0, none⟩ = some (.slice ba out.length bc) ∧ (convert 49 9 (.slice ba out.length bc)).run Tryz.prog w' = .ok (.string (BA out)) w' ∧ Cut out (wrdT 3 ps) ∧ Below w.heap.size w w') := hide (fun o => by
    have hb := (unhide HW2 o).1
    have hA' : ∀ j, A j → j < ((w.alloc o).alloc (.cells #[.slice none 0 0] 67)).heap.size ∧ ¬ j = w.heap.size + 1 := fun j hj => ⟨by have := hA j hj; simp; omega, by have := hA j hj; omega⟩
    refine (pword_all _ ps _ A _ (w.heap.size + 1) _ [] 3 (by decide) (Nat.le_refl _) (he.below (hb.mono (by omega))) (by omega) (unhide HW2 o).2 (hv.below hb hA) hA' (by simpa using hl)).mono ?_
    rintro e w' ⟨rfl, X', ⟨out, hp, hc⟩, hg, hx⟩
    have hbl : Below w.heap.size w w' := hb.trans (hg.below (n := w.heap.size) (by simp; omega) (fun k e => by omega))
    obtain ⟨bv, h1, h2, h3⟩ := hp
    have ht := h2.text
    obtain ⟨ba, bc, rfl⟩ := own_len h2
    exact ⟨rfl, ba, bc, out, h1.cell 0 rfl, ht, by simpa using hc, hbl⟩)
  have HE := hide he
  have HV := hide hv
  have HA := hide hA
  have HL := hide hl
  clear he hv hA hl
  go_enter Tryz.func20, Tryz.ntmps20
  go_wp2_with fail
  refine (unhide HPW _).mono ?_
  rintro e w3 ⟨rfl, ba, bc, out, c0, hcv, hcut, hbl⟩
  have HB3 := hide hbl
  have HPR : Hid (prnL 5 ps (wrdT 3 ps) = prnL 5 ps out) := hide (prn_cut hcut).symm
  have hol := hcut.len
  have HPA := hide (here_any out w3 ((unhide HE).below (hbl.mono (by omega))) (by have := unhide HL; omega))
  clear hcut hbl hol HW2 HPW
  cases hr : wrdL true 5 out with
  | err x =>
    have hx : x ≠ 0 := wrd_nz true 5 out x hr
    have hx1 : (x != 0) = true := by simpa using hx
    rw [hr] at HPA
    have HPR2 : Hid (prnL 5 ps (wrdT 3 ps) = ([], 1)) := hide (by rw [unhide HPR]; unfold prnL; rw [hr])
    clear hr HPR hx
    go_wp2_with fail
    refine (unhide HPA).mono ?_
    rintro e w4 ⟨v4, rfl, b4, hv4⟩
    have HB4 := hide ((unhide HB3).trans (b4.mono (unhide HB3).size))
    have hx2 : ((Rd.err x).errno != 0) = true := hx1
    clear b4 hv4
    go_wp2
    go_ret2
    rw [unhide HPR2]
    exact ⟨rfl, unhide HB4⟩
  | ok l =>
    rw [hr] at HPA
    have HPR2 : Hid (prnL 5 ps (wrdT 3 ps) = if sameW l ps then (out, 0) else ([], 1)) := hide (by rw [unhide HPR]; unfold prnL; rw [hr])
    clear hr HPR
    go_wp2_with fail
    refine (unhide HPA).mono ?_
    rintro e w4 ⟨v4, rfl, b4, hv4⟩
    have HB4 := hide ((unhide HB3).trans (b4.mono (unhide HB3).size))
    have HSM : Hid (Calls Tryz.prog 33 #[v4, .slice va ps.length vc] w4 fun e w' => e = .returned (.bool (sameW l ps)) ∧ Below w4.heap.size w4 w') := hide (same_any l ps v4 (.slice va ps.length vc) w4 _ A hv4 ((unhide HV).below (unhide HB4) (unhide HA)) (fun k h => h.2) (fun k e => by have := unhide HA k e; have := (unhide HB4).size; omega))
    have hx2 : ((Rd.ok l).errno != 0) = false := rfl
    clear b4 hv4
    obtain ⟨sm, hsm⟩ : ∃ sm, sameW l ps = sm := ⟨_, rfl⟩
    rw [hsm] at HSM HPR2
    clear hsm
    cases sm
    · go_wp2_with fail
      refine (unhide HSM).mono ?_
      rintro e w5 ⟨rfl, b5⟩
      have HB5 := hide ((unhide HB4).trans (b5.mono (unhide HB4).size))
      clear b5
      go_wp2
      go_ret2
      rw [unhide HPR2]
      exact ⟨rfl, unhide HB5⟩
    · go_wp2_with fail
      refine (unhide HSM).mono ?_
      rintro e w5 ⟨rfl, b5⟩
      have HB5 := hide ((unhide HB4).trans (b5.mono (unhide HB4).size))
      clear b5
      go_wp2
      go_ret2
      rw [unhide HPR2]
      exact ⟨rfl, unhide HB5⟩
set_option maxHeartbeats 4000000 in
theorem print_3 (ps : List Prt) (v : Value) (A : Nat → Prop) (w : World) (he : WEnv w) (hv : WAt w A v ps) (hA : ∀ j, A j → j < w.heap.size) (hl : (wrdT 3 ps).length ≤ 10000) :
    Calls Tryz.prog 14 #[v] w fun e w' => e = .returned (.tuple #[.string (BA (prnL 5 ps (wrdT 3 ps)).1), .int .i64 (prnL 5 ps (wrdT 3 ps)).2]) ∧ Below w.heap.size w w' := by
  have h2w := he.two
  have HP : Hid (∀ w1, Below w.heap.size w w1 → _) := hide (fun w1 (b1 : Below w.heap.size w w1) => printed_3 ps v A w1 (he.below (b1.mono (by omega))) (hv.below b1 hA) (fun j hj => Nat.lt_of_lt_of_le (hA j hj) b1.size) hl)
  obtain ⟨va, vc, rfl, hlen⟩ := hv.len
  obtain ⟨R, hR⟩ : ∃ R, prnL 5 ps (wrdT 3 ps) = R := ⟨_, rfl⟩
  rw [hR] at HP ⊢
  clear he hv hA hl hR
  go_enter Tryz.func14, Tryz.ntmps14
  go_wp2_with fail
  refine (show Calls Tryz.prog 23 #[] _ (fun e w' => e = .returned (.agg #[.func (Fn.func 37) #[] #[], .string ⟨#[]⟩, .func (Fn.func 38) #[] #[]]) ∧ Below _ _ w') from pen3_any _).mono ?_
  rintro e w1 ⟨rfl, b1⟩
  have HB := hide b1
  have HP1 := hide (unhide HP w1 b1)
  clear b1 HP
  go_wp2_with fail
  refine (unhide HP1).mono ?_
  rintro e w2 ⟨rfl, b2⟩
  have HB2 := hide ((unhide HB).trans (b2.mono (unhide HB).size))
  clear b2
  go_wp2
  go_ret2
  exact ⟨rfl, unhide HB2⟩
end Go.Proofs.YtnamfjbfcbamjaaGreatDoor

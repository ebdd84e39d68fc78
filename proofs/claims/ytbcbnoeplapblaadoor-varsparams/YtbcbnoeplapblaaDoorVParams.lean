/-
  The law VarsParams walked.
-/
import Derived.Test.YtbcbnoeplapblaaDoorRVAsk
import Derived.Test.YtbcbnoeplapblaaDoorVParA
import Derived.Test.YtbcbnoeplapblaaDoorVLaw
import Derived.Test.YtbcbnoeplapblaaDoorVFew
namespace Go.Proofs.YtbcbnoeplapblaaDoor
open Go.RowKit Go.Maps

/-- The numbers and the rooms of the calls that a slice holds are such as there are. -/
def OpsFine (w : World) (v : Value) : Prop := ∀ g q n cap, v = .slice (some ⟨g, q, none⟩) n cap → ∀ i, i < n → (∀ m, w.cell? ⟨g, q + i * 5 + 3, none⟩ = some (.int .i64 m) → -9223372036854775808 ≤ m ∧ m ≤ 9223372036854775807) ∧ (∀ u, w.cell? ⟨g, q + i * 5 + 4, none⟩ = some u → RoomOk u)
/-- Both objects stand, apart from one another. -/
def DAt (w : World) (bv br : Nat) (wr : World) (s r : VSt) : Prop := ∃ X Y : Nat → Prop, VAt wr bv X s ∧ RAt w wr br Y r ∧ (∀ j, X j → Y j → False) ∧ (∀ j, X j → w.heap.size ≤ j ∧ j < wr.heap.size) ∧ (∀ j, Y j → w.heap.size ≤ j ∧ j < wr.heap.size) ∧ Below w.heap.size w wr
theorem RAt.own {w0 w : World} {b : Nat} {Y : Nat → Prop} {s : VSt} (h : RAt w0 w b Y s) : Y b := by
  obtain ⟨_, _, _, _, _, _, _, _, hy, _⟩ := h
  exact hy
theorem DAt.do_ {w wr : World} {bv br : Nat} {s r : VSt} (h : DAt w bv br wr s r) (o : OpP) (v : Value) (hv : AIn w v o.args) (ho : o.args.length ≤ 20) (hn : o.name.length ≤ 200) (hL : s.L.length ≤ 1000) (hl : s.args.length ≤ 20) :
    Calls Tryd.prog 11 #[.pointer (some ⟨bv, 0, none⟩), opV o v] wr fun e w1 => e = .returned (.int .i64 (stepS s o).2) ∧ DAt w bv br w1 (stepS s o).1 r := by
  obtain ⟨X, Y, hV, hR, hD, hX, hY, hB⟩ := h
  have hws := hB.size
  refine (do_any bv (fun j => X j ∨ wr.heap.size ≤ j) s o v wr (fun k hk => .inr hk) (hV.mono (fun k hk => .inl hk)) (hv.below hB) (by omega) (by omega) hL (by omega)).mono ?_
  rintro e w1 ⟨rfl, hv1, hg⟩
  have hsz := hg.size
  refine ⟨rfl, _, Y, hv1.tight, hR.grown hg (fun k hk hlt hs => hs.elim (fun e => hD k e hk) (fun e => by omega)) (fun k hk => hk.elim (fun e => (hX k e).1) (fun e => by omega)), ?_, ?_, ?_, ?_⟩
  · rintro j ⟨h1 | h1, h2⟩ h3
    · exact hD j h1 h3
    · have := (hY j h3).2
      omega
  · rintro j ⟨h1 | h1, h2⟩
    · exact ⟨(hX j h1).1, h2⟩
    · exact ⟨by omega, h2⟩
  · exact fun j hj => ⟨(hY j hj).1, by have := (hY j hj).2; omega⟩
  · exact hB.trans (hg.below hws (fun k hk => hk.elim (fun e => (hX k e).1) (fun e => by omega)))
theorem DAt.ask {w wr : World} {bv br : Nat} {s r : VSt} (h : DAt w bv br wr s r) (o : OpP) (v : Value) (hv : AIn w v o.args) (hc : RoomOk v) (hn : o.name.length ≤ 200) (hL : r.L.length ≤ 1000) :
    Calls Tryd.prog 12 #[.pointer (some ⟨br, 0, none⟩), opV o v] wr fun e w1 => e = .returned (.int .i64 (stepS r o).2) ∧ DAt w bv br w1 s (stepS r o).1 := by
  obtain ⟨X, Y, hV, hR, hD, hX, hY, hB⟩ := h
  have hws := hB.size
  have hbr := hR.own
  refine (ask_any w br (fun j => Y j ∨ wr.heap.size ≤ j) r o v wr (fun k hk => .inr hk) (hR.mono (fun k hk => .inl hk)) hv hc (by omega) hL).mono ?_
  rintro e w1 ⟨rfl, hv1, hg⟩
  have hsz := hg.size
  refine ⟨rfl, X, _, hV.grown hg (fun k hk _ e => hD k hk (by rw [e]; exact hbr)), hv1.tight, ?_, ?_, ?_, ?_⟩
  · rintro j h3 ⟨h1 | h1, h2⟩
    · exact hD j h3 h1
    · have := (hX j h3).2
      omega
  · exact fun j hj => ⟨(hX j hj).1, by have := (hX j hj).2; omega⟩
  · rintro j ⟨h1 | h1, h2⟩
    · exact ⟨(hY j h1).1, h2⟩
    · exact ⟨by omega, h2⟩
  · exact hB.trans (hg.below hws (fun k e => by rw [e]; exact (hY br hbr).1))
theorem DAt.below {w wr w1 : World} {bv br : Nat} {s r : VSt} (h : DAt w bv br wr s r) (hb : Below wr.heap.size wr w1) : DAt w bv br w1 s r := by
  obtain ⟨X, Y, hV, hR, hD, hX, hY, hB⟩ := h
  exact ⟨X, Y, hV.below hb, hR.below hb, hD, fun j hj => ⟨(hX j hj).1, Nat.lt_of_lt_of_le (hX j hj).2 hb.size⟩, fun j hj => ⟨(hY j hj).1, Nat.lt_of_lt_of_le (hY j hj).2 hb.size⟩, hB.trans (hb.mono hB.size)⟩
theorem DAt.under {w wr : World} {bv br : Nat} {s r : VSt} (h : DAt w bv br wr s r) : Below w.heap.size w wr := by
  obtain ⟨_, _, _, _, _, _, _, hB⟩ := h
  exact hB
/-- What stays small while calls are made. -/
structure Small (s : VSt) (k : Nat) : Prop where
  few : s.L.length ≤ k
  args : s.args.length ≤ 20
  argz : ∀ x ∈ s.args, x.length ≤ 200
  st : -9223372036854775808 ≤ s.st ∧ s.st ≤ 9223372036854775807
theorem Small.step {s : VSt} {k : Nat} (h : Small s k) (o : OpP) (h1 : o.args.length ≤ 20) (h2 : ∀ x ∈ o.args, x.length ≤ 200) (h3 : -9223372036854775808 ≤ o.n ∧ o.n ≤ 9223372036854775807) : Small (stepS s o).1 (k + 1) := by
  refine ⟨Nat.le_trans (step_len s o) (Nat.succ_le_succ h.few), step_args s o 20 h.args h1, ?_, ?_⟩
  · unfold stepS unsS expS rdoS shfS setS
    repeat' split
    all_goals first | exact h.argz | exact h2 | exact fun x hx => h.argz x (List.mem_of_mem_drop hx)
  · unfold stepS unsS expS rdoS shfS setS
    repeat' split
    all_goals first | exact h.st | exact h3
theorem opB_args {L : List OpP} {k : Nat} {o : OpP} (h : fwB L = true) (ho : L[k]? = some o) : ∀ x ∈ o.args, x.length ≤ 200 := by
  unfold fwB at h
  rw [Bool.and_eq_true, List.all_eq_true] at h
  have := h.2 o (List.mem_of_getElem? ho)
  unfold opB txB at this
  simp only [Bool.and_eq_true, decide_eq_true_eq, List.all_eq_true] at this
  exact this.2.2
/-- A new object of the document's, beside a new one of the program's. -/
theorem DAt.new {w w2 : World} {b : Nat} {z : List UInt8} (hv : VAt w2 b (fun k => w.heap.size ≤ k) ⟨z, [], [], 0⟩) (hb : Below w.heap.size w w2) : DAt w b w2.heap.size (w2.alloc (.cells #[.slice none 0 0, .string (BA z), .slice none 0 0, .int .i64 0] 31)) ⟨z, [], [], 0⟩ ⟨z, [], [], 0⟩ := by
  have hal : Below w2.heap.size w2 (w2.alloc (.cells #[.slice none 0 0, .string (BA z), .slice none 0 0, .int .i64 0] 31)) := (Below.refl _ w2).alloc (Nat.le_refl _) _
  refine ⟨_, fun k => k = w2.heap.size, hv.tight.below hal, ⟨.slice none 0 0, .slice none 0 0, Blk.new _ _ _, ⟨none, 0, rfl, fun i x hi => (by simp at hi)⟩, fun k hk => (by cases hk), ⟨none, 0, rfl, Nat.zero_le _, .inl rfl⟩, fun a n c e => (by injection e with _ e2 _; omega), hb.size, rfl, hb.trans (hal.mono hb.size)⟩, ?_, ?_, ?_, hb.trans (hal.mono hb.size)⟩
  · rintro j ⟨_, h1⟩ h2
    omega
  · exact fun j hj => ⟨hj.1, Nat.lt_of_lt_of_le hj.2 hal.size⟩
  · rintro j rfl
    exact ⟨hb.size, by simp⟩
/-- Where the law's loop stands. -/
structure PpAt (w : World) (bv br : Nat) (k : Nat) (wr : World) (s : VSt) : Prop where
  at_ : DAt w bv br wr s s
  small : Small s k
set_option maxRecDepth 20000 in
set_option maxHeartbeats 16000000 in
theorem params_walk (v : Value) (L : List OpP) (p : List UInt8) (w : World) (h : OpsAt w v L) (hf : OpsFine w v) (ht : Pow w) :
    Calls Tryd.prog 3 #[v, .string (BA p)] w fun e w' => e = .returned (.bool true) ∧ Below w.heap.size w w' := by
  have HAW : Hid (∀ W, Below w.heap.size w W → Calls Tryd.prog 9 #[] W fun e w' => e = .returned (.bool true) ∧ Below w.heap.size w w') := hide (fun W hW => (awake_any W).mono (fun e w' ⟨h1, h2⟩ => ⟨h1, hW.trans (h2.mono hW.size)⟩))
  have HFW : Hid (Calls Tryd.prog 8 #[v] w fun e w' => e = .returned (.bool (fwB L)) ∧ w' = w) := hide (few_any v L w h)
  have HH := hide h
  have HF := hide hf
  have HT := hide ht
  clear ht
  obtain ⟨ad, cap, rfl, hm, _⟩ := h
  obtain ⟨n, hn⟩ : ∃ n, n = L.length := ⟨_, rfl⟩
  have HN := hide hn
  rw [← hn] at hm HFW HH HF ⊢
  rw [max63] at hm
  clear hn hf
  cases hfb : fwB L with
  | false =>
    rw [hfb] at HFW
    clear hfb HH HN
    go_enter Tryd.func3, Tryd.ntmps3
    go_wp2_with fail
    refine (unhide HFW).mono ?_
    rintro e w1 ⟨rfl, hw1⟩
    rw [show w1 = w from hw1]
    clear hw1
    go_wp2_with fail
    refine (unhide HAW _ (Below.refl _ _)).mono ?_
    rintro e w2 ⟨rfl, b2⟩
    have HB2 := hide b2
    clear b2
    go_wp2
    go_ret
    exact ⟨rfl, unhide HB2⟩
  | true =>
    rw [hfb] at HFW
    have HFB := hide hfb
    clear hfb
    by_cases hq : 200 < p.length
    · have hq1 : (200 : Int) < (p.length : Int) := by omega
      clear hq HH HN HFB
      go_enter Tryd.func3, Tryd.ntmps3
      go_wp2_with fail
      refine (unhide HFW).mono ?_
      rintro e w1 ⟨rfl, hw1⟩
      rw [show w1 = w from hw1]
      clear hw1
      go_wp2_with fail
      refine (unhide HAW _ (Below.refl _ _)).mono ?_
      rintro e w2 ⟨rfl, b2⟩
      have HB2 := hide b2
      clear b2
      go_wp2
      go_ret
      exact ⟨rfl, unhide HB2⟩
    · have hq1 : ¬ (200 : Int) < (p.length : Int) := by omega
      have hnl : p.length ≤ 200 := by omega
      clear hq
      have HNEW := hide (new_any [122, 101, 114, 111] _ [] w ⟨none, 0, rfl, Nat.zero_le _, .inl rfl⟩ (by decide))
      go_enter Tryd.func3, Tryd.ntmps3
      go_wp2_with fail
      refine (unhide HFW).mono ?_
      rintro e w1 ⟨rfl, hw1⟩
      rw [show w1 = w from hw1]
      clear hw1
      go_wp2_with fail
      refine (unhide HNEW).mono ?_
      obtain ⟨b, hb⟩ : ∃ b, b = w.heap.size := ⟨_, rfl⟩
      rw [← hb]
      rintro e w2 ⟨rfl, v2, b2⟩
      rw [hb] at b2
      obtain ⟨br, hbr⟩ : ∃ br, br = w2.heap.size := ⟨_, rfl⟩
      have HI0 : Hid (PpAt w b br 0 (w2.alloc (.cells #[.slice none 0 0, .string (BA [122, 101, 114, 111]), .slice none 0 0, .int .i64 0] 31)) ⟨[122, 101, 114, 111], [], [], 0⟩) := hide ⟨by rw [hbr]; exact DAt.new (by rw [hb] at v2 ⊢; exact v2) b2, ⟨Nat.zero_le _, Nat.zero_le _, fun x hx => by simp at hx, by constructor <;> decide⟩⟩
      clear v2 b2 hb HNEW HFW
      go_wp2_with fail
      rw [← hbr]
      clear hbr
      go_loopw [7] (fun iv wr => ∃ (k : Nat) (s : VSt), iv = .int .i64 k ∧ k ≤ n ∧ Hid (PpAt w b br k wr s)) (fun iv _ => n - (intOf iv).toNat)
      case atStart => exact ⟨0, _, rfl, Nat.zero_le _, HI0⟩
      case round =>
        obtain ⟨k, s, rfl, hk, HI⟩ := hrel
        clear HI0
        by_cases hlt : k < n
        · obtain ⟨o, ho⟩ := get_ex (l := L) (k := k) (by have := unhide HN; omega)
          obtain ⟨g, q, u, had, hg, a0, a1, a2, a3, a4, a5⟩ := (unhide HH).op ho
          subst had
          obtain ⟨ho1, ho2, ho3⟩ := opB_of (unhide HFB) ho
          have hoz := opB_args (unhide HFB) ho
          obtain ⟨f1, f2⟩ := unhide HF g q n cap rfl k hlt
          have hon := f1 _ a3
          have hrm := f2 _ a4
          have hn60 : n ≤ 60 := by have := len_of (unhide HFB); have := unhide HN; omega
          have HS' := hide ((unhide HI).small.step o ho3 hoz hon)
          have HIN := hide (And.intro a5 hrm)
          obtain ⟨au, ac, hu, _⟩ := id a5
          have HDO := hide ((unhide HI).at_.do_ o u a5 ho3 ho1 (by have := (unhide HI).small.few; omega) (unhide HI).small.args)
          have HAS : Hid (∀ w1, DAt w b br w1 (stepS s o).1 s → Calls Tryd.prog 12 #[.pointer (some ⟨br, 0, none⟩), opV o u] w1 fun e w2 => e = .returned (.int .i64 (stepS s o).2) ∧ DAt w b br w2 (stepS s o).1 (stepS s o).1) := hide (fun w1 h1 => h1.ask o u a5 hrm ho1 (by have := (unhide HI).small.few; omega))
          obtain ⟨al, hal⟩ : ∃ al, al = o.args.length := ⟨_, rfl⟩
          rw [← hal] at hu
          subst hu
          unfold opV at HDO HAS
          obtain ⟨s', hs'⟩ : ∃ s', s' = (stepS s o).1 := ⟨_, rfl⟩
          obtain ⟨e', he'⟩ : ∃ e', e' = (stepS s o).2 := ⟨_, rfl⟩
          rw [← hs', ← he'] at HDO HAS
          rw [← hs'] at HS'
          have HC := hide (And.intro a0 (And.intro a1 (And.intro a2 (And.intro a3 a4))))
          have hlt1 : (k : Int) < (n : Int) := by omega
          have hk0 : (0 : Int) ≤ (k : Int) := by omega
          clear a0 a1 a2 a3 a4 a5 hal ho1 ho2 ho3 hoz f1 f2 hon hrm ho hs' he'
          have c0 := ((unhide HI).at_.under.cell (p := ⟨g, q + k * 5, none⟩) hg).trans (unhide HC).1
          have c1 := ((unhide HI).at_.under.cell (p := ⟨g, q + k * 5 + 1, none⟩) hg).trans (unhide HC).2.1
          have c2 := ((unhide HI).at_.under.cell (p := ⟨g, q + k * 5 + 2, none⟩) hg).trans (unhide HC).2.2.1
          have c3 := ((unhide HI).at_.under.cell (p := ⟨g, q + k * 5 + 3, none⟩) hg).trans (unhide HC).2.2.2.1
          have c4 := ((unhide HI).at_.under.cell (p := ⟨g, q + k * 5 + 4, none⟩) hg).trans (unhide HC).2.2.2.2
          go_wp2_with fail
          refine (unhide HDO).mono ?_
          rintro e w1 ⟨rfl, hd1⟩
          have HD1 := hide hd1
          clear hd1 c0 c1 c2 c3 c4
          have c0 := ((unhide HD1).under.cell (p := ⟨g, q + k * 5, none⟩) hg).trans (unhide HC).1
          have c1 := ((unhide HD1).under.cell (p := ⟨g, q + k * 5 + 1, none⟩) hg).trans (unhide HC).2.1
          have c2 := ((unhide HD1).under.cell (p := ⟨g, q + k * 5 + 2, none⟩) hg).trans (unhide HC).2.2.1
          have c3 := ((unhide HD1).under.cell (p := ⟨g, q + k * 5 + 3, none⟩) hg).trans (unhide HC).2.2.2.1
          have c4 := ((unhide HD1).under.cell (p := ⟨g, q + k * 5 + 4, none⟩) hg).trans (unhide HC).2.2.2.2
          go_wp2_with fail
          refine (unhide HAS _ (unhide HD1)).mono ?_
          rintro e w2 ⟨rfl, hd2⟩
          have HI2 : Hid (PpAt w b br (k + 1) w2 s') := hide ⟨hd2, unhide HS'⟩
          clear hd2 c0 c1 c2 c3 c4
          go_wp2
          go_roundw
          case rel => exact ⟨k + 1, s', by go_num, by omega, HI2⟩
          case measure => simp [intOf]; omega
        · have hlt1 : ¬ (k : Int) < (n : Int) := by omega
          have hn60 : n ≤ 60 := by have := len_of (unhide HFB); have := unhide HN; omega
          obtain ⟨X, Y, hV, hR, hD, hX, hY, hB⟩ := (unhide HI).at_
          have hsm := (unhide HI).small
          have hfw := hsm.few
          have HP := hide (param_any b X s p wr hV ((unhide HT).below hB) (by omega) hsm.args hsm.argz hsm.st)
          have HRP : Hid (∀ w1, Below wr.heap.size wr w1 → Calls Tryd.prog 14 #[.pointer (some ⟨br, 0, none⟩), .string (BA p)] w1 fun e w' => e = .returned (.tuple #[.string (BA (parS s p).1), .bool (parS s p).2]) ∧ Below w1.heap.size w1 w') := hide (fun w1 h1 => rparam_any w w1 br Y s p (hR.below h1) (by omega) (by omega) hsm.args hsm.argz hsm.st)
          have HB := hide hB
          obtain ⟨⟨T, B⟩, hTB⟩ : ∃ R, R = parS s p := ⟨_, rfl⟩
          rw [← hTB] at HP HRP
          simp only at HP HRP
          clear hV hR hD hX hY hB hsm hfw hTB
          go_wp2_with fail
          refine (unhide HP).mono ?_
          rintro e w1 ⟨rfl, hb1⟩
          have HB1 := hide hb1
          clear hb1
          go_wp2_with fail
          refine (unhide HRP _ (unhide HB1)).mono ?_
          rintro e w2 ⟨rfl, hb2⟩
          have HB2 := hide (((unhide HB).trans ((unhide HB1).mono (unhide HB).size)).trans (hb2.mono (Nat.le_trans (unhide HB).size (unhide HB1).size)))
          clear hb2
          have htt : ((BA T).toList == (BA T).toList) = true := by simp
          have hbb : (B == B) = true := by simp
          go_wp2_with fail
          refine (unhide HAW _ (unhide HB2)).mono ?_
          rintro e w6 ⟨rfl, b6⟩
          have HB6 := hide b6
          clear b6
          go_wp2
          go_ret
          exact ⟨rfl, unhide HB6⟩

end Go.Proofs.YtbcbnoeplapblaaDoor

/-
  The document's reader: run.
  The document's reader: brace.
  The document's reader: brace, with a sign.
-/
import Derived.Test.YtnamfjbfcbamjaaGreatDoorP29
import Derived.Test.YtnamfjbfcbamjaaGreatDoorP30
import Derived.Test.YtnamfjbfcbamjaaGreatDoorP12
import Derived.Test.YtnamfjbfcbamjaaGreatDoorP14
import Derived.Deep.DeepCutAuto
import Derived.Deep.CutRange
namespace Go.Proofs.YtnamfjbfcbamjaaGreatDoor
open Go.RowKit
theorem rplain_add (w : World) (b : Nat) (X : Nat → Prop) (ps : List Prt) (er : Int) (k : Int) (t : ByteArray) (q : Bool) (o : Int) (c : Bool) (h : RWt w b X ps er) (hr : Room ps t.size) :
    Calls Tryz.prog 28 #[.pointer (some ⟨b, 0, none⟩), .agg #[.int .i64 k, .string t, .bool q, .int .i64 o, .bool c, .slice none 0 0]] w fun e w' => e = .returned (.tuple #[]) ∧ RAdds w b X (addP ps (.mk k t.data.toList q o c [])) er w' :=
  radd_any w b X (fun _ => False) ps er _ (.mk k t.data.toList q o c []) h ⟨_, rfl, wat_nil _ _ _ _⟩ (fun _ h => h.elim) (by have := hr.1; omega) (by have := hr.2; show tlen ps + t.data.toList.length ≤ _; rw [data_len]; exact this)
set_option maxRecDepth 20000 in
set_option maxHeartbeats 4000000 in
theorem rrun_any (s : ByteArray) (q : Bool) (w : World) (b : Nat) (X : Nat → Prop) (ps : List Prt) (er : Int) (hs : s.size ≤ 50000) (h : RWt w b X ps er) (hr : Room ps s.size) :
    Calls Tryz.prog 50 #[.pointer (some ⟨b, 0, none⟩), .string s, .bool q] w fun e w' => e = .returned (.tuple #[]) ∧ RAdds w b X (addP ps (setQ q (runP s.data.toList))) er w' := by
  have HA : Hid (∀ w1 (k : Int) (t : ByteArray), t.size ≤ s.size → Below w.heap.size w w1 → Calls Tryz.prog 28 #[.pointer (some ⟨b, 0, none⟩), .agg #[.int .i64 k, .string t, .bool q, .int .i64 0, .bool false, .slice none 0 0]] w1 fun e w' => e = .returned (.tuple #[]) ∧ RAdds w b X (addP ps (.mk k t.data.toList q 0 false [])) er w') := hide (fun w1 k t ht hb =>
    (rplain_add w1 b X ps er k t q 0 false (h.below hb) ⟨by have := hr.1; omega, by have := hr.2; omega⟩).mono (fun e w' ⟨h1, h3⟩ => ⟨h1, h3.of_below hb⟩))
  have hb : brkB s.data.toList = ((s.data.toList.head? == some 40) && okNil (thg (3 * (s.size + 1) + 3) (36 :: s.data.toList) 0 0)) := by unfold brkB; rw [data_len]
  clear h hr
  have hss : s.size ≤ s.size := Nat.le_refl _
  by_cases h0 : s.size = 0
  · have he := empty_of h0
    have hl : s.data.toList = [] := List.eq_nil_of_length_eq_zero (by simpa using h0)
    have hp : setQ q (runP s.data.toList) = .mk 3 s.data.toList q 0 false [] := by unfold runP; rw [hb, hl]; rfl
    rw [hp]
    clear hp hl hb h0
    go_enter Tryz.func50, Tryz.ntmps50
    go_wp2_with fail
    refine (unhide HA _ _ _ hss (Below.refl _ _)).mono ?_
    rintro e w1 ⟨rfl, hR⟩
    have HR := hide hR
    clear hR
    go_wp2
    first | refine bodyPost_end (res0 rfl _ _) rfl ?_ | refine bodyPost_ret (res0 rfl _ _) rfl ?_
    exact ⟨rfl, unhide HR⟩
  have hlt : 0 < s.size := by omega
  have he := nonempty_of hlt
  have hl := head_get hlt
  have h4 : (s.data.toList.head? == some 40) = ((s[0].toNat : Int) == 40) := by
    rw [hl]
    exact byte_is s[0] 40 (by omega)
  clear h0
  cases e4 : ((s[0].toNat : Int) == 40) with
  | false =>
    have hp : setQ q (runP s.data.toList) = .mk 3 s.data.toList q 0 false [] := by unfold runP; rw [hb, h4, e4]; rfl
    rw [hp]
    clear hp hl hb h4
    go_enter Tryz.func50, Tryz.ntmps50
    go_wp2_with fail
    refine (unhide HA _ _ _ hss (Below.refl _ _)).mono ?_
    rintro e w1 ⟨rfl, hR⟩
    have HR := hide hR
    clear hR
    go_wp2
    first | refine bodyPost_end (res0 rfl _ _) rfl ?_ | refine bodyPost_ret (res0 rfl _ _) rfl ?_
    exact ⟨rfl, unhide HR⟩
  | true =>
    rw [h4, e4, Bool.true_and] at hb
    obtain ⟨T, hT⟩ : ∃ x, x = thg (3 * (s.size + 1) + 3) (36 :: s.data.toList) 0 0 := ⟨_, rfl⟩
    have hnz : NZ T := by rw [hT]; exact (c_nz _).2.2 _ _ _
    have hle : ∀ r, T = .ok r → r.length ≤ s.size := fun r e => by
      rw [hT] at e
      have := thg_le e
      rwa [data_len] at this
    have hp : pieceS (⟨#[36]⟩ ++ s) 0 false = pcOf (s.size + 1) T := by
      rw [hT, pieceS_of _ _ (by rw [cat36_size]; omega), cat36_size, cat36]
      rfl
    have hsz : (⟨#[36]⟩ ++ s : ByteArray).size = s.size + 1 := cat36_size s
    have HP : Hid (∀ W, Calls Tryz.prog 30 #[.string (⟨#[36]⟩ ++ s), .int .i64 0, .bool false] W fun e w' => e = .returned (.tuple #[.int .i64 (pieceS (⟨#[36]⟩ ++ s) 0 false).1, .int .i64 (pieceS (⟨#[36]⟩ ++ s) 0 false).2.1, .int .i64 (pieceS (⟨#[36]⟩ ++ s) 0 false).2.2]) ∧ Below W.heap.size W w') := hide (fun W => rpiece_any _ 0 false W (by rw [hsz]; omega))
    rw [hp] at HP
    rw [← hT] at hb
    have hbl := brk_len (l := s.data.toList)
    rw [data_len, hb] at hbl
    unfold runP
    rw [hb]
    clear hp hT h4 hb
    rcases T with r | ⟨e, m⟩
    · have hr := hle r rfl
      obtain ⟨z, hz⟩ : ∃ z : Nat, z = s.size + 1 - r.length := ⟨_, rfl⟩
      simp only [pcOf, ← hz] at HP
      have hzz : ((z : Int) == (s.size : Int) + 1) = okNil (.ok r) := by
        cases r with
        | nil => simp at hz; simp [hz, okNil]
        | cons c r => simp at hz hr; simp [okNil]; omega
      clear hz hle hnz hr
      cases ho : okNil (.ok r) with
      | true =>
        rw [ho] at hzz
        have h2 := hbl ho
        obtain ⟨n, hn⟩ : ∃ n, s.size = n + 1 := ⟨s.size - 1, by omega⟩
        have hem := ext_mid s
        rw [hn, Nat.add_sub_cancel] at hem
        have hes : (s.extract 1 n).size ≤ s.size := by rw [ByteArray.size_extract]; omega
        have hp : setQ q (if true = true then Prt.mk 4 ((s.data.toList.drop 1).dropLast) false 0 false [] else .mk 3 s.data.toList false 0 false []) = .mk 4 (s.extract 1 n).data.toList q 0 false [] := by rw [hem]; rfl
        rw [hp]
        have hn2 : (1 : Int) ≤ (n : Int) := by omega
        have hn1 : IntKind.i64.wrap ((s.size : Int) - 1) = (n : Int) := by rw [IntKind.wrap_i64]; omega
        clear hp hem hbl ho hl h2
        go_enter Tryz.func50, Tryz.ntmps50
        go_wp2_with fail
        refine (unhide HP _).mono ?_
        rintro en w1 ⟨rfl, b1⟩
        have HB1 := hide b1
        clear b1
        go_wp2_with fail
        refine (unhide HA _ _ _ hes (unhide HB1)).mono ?_
        rintro e w1 ⟨rfl, hR⟩
        have HR := hide hR
        clear hR
        go_wp2
        first | refine bodyPost_end (res0 rfl _ _) rfl ?_ | refine bodyPost_ret (res0 rfl _ _) rfl ?_
        exact ⟨rfl, unhide HR⟩
      | false =>
        rw [ho] at hzz
        have hp : setQ q (if false = true then Prt.mk 4 ((s.data.toList.drop 1).dropLast) false 0 false [] else .mk 3 s.data.toList false 0 false []) = .mk 3 s.data.toList q 0 false [] := rfl
        rw [hp]
        clear hp hbl ho hl
        go_enter Tryz.func50, Tryz.ntmps50
        go_wp2_with fail
        refine (unhide HP _).mono ?_
        rintro en w1 ⟨rfl, b1⟩
        have HB1 := hide b1
        clear b1
        go_wp2_with fail
        refine (unhide HA _ _ _ hss (unhide HB1)).mono ?_
        rintro e w1 ⟨rfl, hR⟩
        have HR := hide hR
        clear hR
        go_wp2
        first | refine bodyPost_end (res0 rfl _ _) rfl ?_ | refine bodyPost_ret (res0 rfl _ _) rfl ?_
        exact ⟨rfl, unhide HR⟩
    · have he : e ≠ 0 := hnz
      have he1 : (e == 0) = false := by simpa using he
      obtain ⟨z, hz⟩ : ∃ z : Nat, z = s.size + 1 - m.length := ⟨_, rfl⟩
      simp only [pcOf, ← hz] at HP
      have hp : setQ q (if okNil (.err e m) = true then Prt.mk 4 ((s.data.toList.drop 1).dropLast) false 0 false [] else .mk 3 s.data.toList false 0 false []) = .mk 3 s.data.toList q 0 false [] := rfl
      rw [hp]
      clear hz hle hnz hp hbl hl
      go_enter Tryz.func50, Tryz.ntmps50
      go_wp2_with fail
      refine (unhide HP _).mono ?_
      rintro en w1 ⟨rfl, b1⟩
      have HB1 := hide b1
      clear b1
      go_wp2_with fail
      refine (unhide HA _ _ _ hss (unhide HB1)).mono ?_
      rintro e w1 ⟨rfl, hR⟩
      have HR := hide hR
      clear hR
      go_wp2
      first | refine bodyPost_end (res0 rfl _ _) rfl ?_ | refine bodyPost_ret (res0 rfl _ _) rfl ?_
      exact ⟨rfl, unhide HR⟩
end Go.Proofs.YtnamfjbfcbamjaaGreatDoor
namespace Go.Proofs.YtnamfjbfcbamjaaGreatDoor
open Go.RowKit
def RWordN (N : Nat) : Prop := ∀ (k : Nat) (l : List UInt8) (w : World), k < 6 → l.length ≤ N → l.length ≤ 4096 → Calls Tryz.prog 19 #[.string (BA l), .int .i64 (k : Int)] w fun e w' => WEnd (rdC false k l).word w e w'
def RBrEnd (q : Bool) (r : Bd) (w : World) (b : Nat) (X : Nat → Prop) (ps : List Prt) (e : Ending) (w' : World) : Prop :=
  match r with
  | .ok p => e = .returned (.tuple #[]) ∧ RAdds w b X (addP ps (setQ q p)) 0 w'
  | .err x => e = .returned (.tuple #[]) ∧ x ≠ 0 ∧ ∃ qs, RAdds w b X qs x w'
def lenB (l : List UInt8) : Bool := decide (l.head? = some 35 ∧ l.drop 1 ≠ [] ∧ parN (l.drop 1) = (l.drop 1).length)
theorem head_i {ts : ByteArray} (hlt : 0 < ts.size) (n : Nat) (hn : n < 256) : (ts.data.toList.head? == some (UInt8.ofNat n)) = ((ts[0].toNat : Int) == (n : Int)) := by
  rw [head_get hlt]
  exact byte_is ts[0] n hn
theorem lenB_short {ts : ByteArray} (h : ¬ 1 < ts.size) : lenB ts.data.toList = false := by
  unfold lenB
  rw [decide_eq_false_iff_not]
  rintro ⟨_, h2, _⟩
  exact h2 (List.drop_eq_nil_of_le (by rw [data_len]; omega))
theorem lenB_no {ts : ByteArray} (hlt : 0 < ts.size) (h : ((ts[0].toNat : Int) == 35) = false) : lenB ts.data.toList = false := by
  unfold lenB
  rw [decide_eq_false_iff_not]
  rintro ⟨h1, _, _⟩
  have := head_i hlt 35 (by omega)
  rw [h1] at this
  rw [show (35 : Int) = ((35 : Nat) : Int) from rfl, ← this] at h
  revert h
  decide
theorem lenB_is {ts : ByteArray} (hlt : 1 < ts.size) (h : ((ts[0].toNat : Int) == 35) = true) : lenB ts.data.toList = ((parN (ts.data.toList.drop 1) : Int) == (ts.size : Int) - 1) := by
  unfold lenB
  have h1 : ts.data.toList.head? = some 35 := by
    have := head_i (ts := ts) (by omega) 35 (by omega)
    rw [show ((35 : Nat) : Int) = 35 from rfl, h] at this
    simpa using this
  have h2 : (ts.data.toList.drop 1).length = ts.size - 1 := by rw [List.length_drop, data_len]
  have h3 : ts.data.toList.drop 1 ≠ [] := fun e => by rw [e] at h2; simp at h2; omega
  rw [h2, Bool.eq_iff_iff, decide_eq_true_eq, beq_iff_eq]
  constructor
  · rintro ⟨_, _, h4⟩; omega
  · intro h4; exact ⟨h1, h3, by omega⟩
theorem brc_of {rd : Nat → List UInt8 → Rd} {k : Nat} {l : List UInt8} (h : lenB l = true) : brcL rd k l = .ok (.mk 2 (l.drop 1) false 1 false []) := by
  unfold brcL
  rw [if_pos (of_decide_eq_true h)]
theorem brc_no {rd : Nat → List UInt8 → Rd} {k : Nat} {l : List UInt8} (h : lenB l = false) (h0 : parN l = 0) : brcL rd k l = .err 10 := by
  unfold brcL
  rw [if_neg (of_decide_eq_false h), if_pos h0]
theorem brc_whole {rd : Nat → List UInt8 → Rd} {k : Nat} {l : List UInt8} (h : lenB l = false) (h0 : parN l ≠ 0) (h1 : parN l = l.length) : brcL rd k l = .ok (.mk 2 l false 0 false []) := by
  unfold brcL
  rw [if_neg (of_decide_eq_false h), if_neg h0, if_pos h1]
theorem brc_sgn {rd : Nat → List UInt8 → Rd} {k : Nat} {l : List UInt8} (h : lenB l = false) (h0 : parN l ≠ 0) (h1 : parN l ≠ l.length) : brcL rd k l = match sgnL (colonL (l.drop (parN l))) (behindL (l.drop (parN l))) with
    | none => .err 10
    | some (op, t) => match (rd (withinW k op) t).word with
      | .err e => .err e
      | .ok ps => .ok (.mk 2 (l.take (parN l)) false op (colonL (l.drop (parN l))) ps) := by
  unfold brcL
  rw [if_neg (of_decide_eq_false h), if_neg h0, if_neg h1]
  rfl
theorem ext_list (ts : ByteArray) (n : Nat) : (ts.extract n ts.size).data.toList = ts.data.toList.drop n := by
  have := extract_end ts n
  rw [this, BA_list]
theorem ext_to (ts : ByteArray) (n : Nat) : (ts.extract 0 n).data.toList = ts.data.toList.take n := by
  have := extract_take ts 0 n
  rw [Nat.zero_add] at this
  rw [this]
  simp
set_option maxRecDepth 20000 in
set_option maxHeartbeats 8000000 in
theorem rbr_len (k : Nat) (ts : ByteArray) (w : World) (b : Nat) (X : Nat → Prop) (ps : List Prt) (q : Bool) (hk : k < 6) (hq : allW k = q) (hs : ts.size ≤ 4096) (h : RWt w b X ps 0) (hr : Room ps (ts.size + 1)) (hg : lenB ts.data.toList = true)  :
    Calls Tryz.prog 49 #[.pointer (some ⟨b, 0, none⟩), .string ts, .int .i64 (k : Int)] w fun e w' => RBrEnd q (.ok (.mk 2 (ts.data.toList.drop 1) false 1 false [])) w b X ps e w' := by
  have HP : Hid (∀ (u : ByteArray) W, u.size ≤ 100000 → Calls Tryz.prog 65 #[.string u] W fun e w' => e = .returned (.int .i64 (parN u.data.toList : Int)) ∧ w' = W) := hide (fun u W hu => rparam_any u W hu)
  have HB0 : Hid (∀ o, Below w.heap.size w (w.alloc o)) := hide (fun o => (Below.refl _ w).alloc (Nat.le_refl _) _)
  have hbw := h.lt
  have HH := hide h
  have HR := hide hr
  have HG := hide hg
  have HAL := hide (fun W => rallw_any k W hk)
  rw [hq] at HAL
  have hce : ∀ o, (w.alloc o).cell? ⟨b, 1, none⟩ = some (.int .i64 0) := fun o => ((h.below (unhide HB0 o)).err 0).1
  have hfe : ∀ o, (w.alloc o).frozen? ⟨b, 1, none⟩ = false := fun o => ((h.below (unhide HB0 o)).err 0).2.1
  have HER : Hid (∀ o, RAdds w b X ps 10 ((w.setCell ⟨b, 1, none⟩ (.int .i64 10)).alloc o)) := hide (fun o => (h.err 10).2.2.below ((Below.refl _ _).alloc (Nat.le_refl _) _))
  have HA : Hid (∀ w1 (t : ByteArray) (o : Int), t.size ≤ ts.size → Below w.heap.size w w1 → Calls Tryz.prog 28 #[.pointer (some ⟨b, 0, none⟩), .agg #[.int .i64 2, .string t, .bool q, .int .i64 o, .bool false, .slice none 0 0]] w1 fun e w' => e = .returned (.tuple #[]) ∧ RAdds w b X (addP ps (.mk 2 t.data.toList q o false [])) 0 w') := hide (fun w1 t o ht hb =>
    (rplain_add w1 b X ps 0 2 t q o false (h.below hb) ⟨by have := hr.1; omega, by have := hr.2; omega⟩).mono (fun e w' ⟨h1, h3⟩ => ⟨h1, h3.of_below hb⟩))
  clear h hr hg hq
  have hxs : (ts.extract 1 ts.size).size ≤ ts.size := by rw [ByteArray.size_extract]; omega
  have HX := hide (ext_list ts 1)
  have h1 : 1 ≤ ts.size := by
    have := unhide HG
    rcases Nat.lt_or_ge 1 ts.size with e | e
    · omega
    · rw [lenB_short (by omega)] at this; cases this
  have h1i : (1 : Int) ≤ (ts.size : Int) := by omega
  go_enter Tryz.func49, Tryz.ntmps49
  go_wp2_with fail
  refine (unhide HAL _).mono ?_
  rintro e w1 ⟨rfl, rfl⟩
  go_upto_region 1 with fail
  go_cut [33] from 17 to 33 (fun c wx => c = .bool true ∧ wx = w1.alloc (.cells #[.int .i64 2, .string ⟨#[]⟩, .bool q, .int .i64 0, .bool false, .slice none 0 0] 37))
  case first =>
    by_cases h1 : 1 < ts.size
    · have h1i : (1 : Int) < (ts.size : Int) := by omega
      have h0 : 0 < ts.size := by omega
      cases e35 : ((ts[0].toNat : Int) == 35) with
      | true =>
        have hgl := hide ((unhide HG).symm.trans (lenB_is h1 e35))
        have hx := hide (ext_list ts 1)
        have hxs : (ts.extract 1 ts.size).size ≤ 100000 := by rw [ByteArray.size_extract]; omega
        have hwr : IntKind.i64.wrap ((ts.size : Int) - 1) = (ts.size : Int) - 1 := by rw [IntKind.wrap_i64]; omega
        go_wp2_with fail
        refine (unhide HP _ _ hxs).mono ?_
        rintro e w1 ⟨rfl, rfl⟩
        rw [unhide hx]
        go_wp2
        go_meet
        exact ⟨congrArg Value.bool (by rw [← List.drop_one]; exact (unhide hgl).symm), rfl⟩
      | false =>
        have hgl := (unhide HG).symm.trans (lenB_no h0 e35)
        first
        | exact Bool.noConfusion hgl
        | (go_wp2
           go_meet
           exact ⟨rfl, rfl⟩)
    · have h1i : ¬ (1 : Int) < (ts.size : Int) := by omega
      have hgl := (unhide HG).symm.trans (lenB_short h1)
      first
      | exact Bool.noConfusion hgl
      | (go_wp2
         go_meet
         exact ⟨rfl, rfl⟩)
  case rest =>
    obtain ⟨rfl, rfl⟩ := hcut
    go_wp2_with fail
    refine (unhide HA _ _ _ hxs (unhide HB0 _)).mono ?_
    rintro e w2 ⟨rfl, hR⟩
    have HRR := hide hR
    clear hR
    go_wp2
    first | refine bodyPost_end (res0 rfl _ _) rfl ?_ | refine bodyPost_ret (res0 rfl _ _) rfl ?_
    rw [unhide HX] at HRR
    exact ⟨rfl, unhide HRR⟩
set_option maxRecDepth 20000 in
set_option maxHeartbeats 8000000 in
theorem rbr_no (k : Nat) (ts : ByteArray) (w : World) (b : Nat) (X : Nat → Prop) (ps : List Prt) (q : Bool) (hk : k < 6) (hq : allW k = q) (hs : ts.size ≤ 4096) (h : RWt w b X ps 0) (hr : Room ps (ts.size + 1)) (hg : lenB ts.data.toList = false) (hn : parN ts.data.toList = 0) :
    Calls Tryz.prog 49 #[.pointer (some ⟨b, 0, none⟩), .string ts, .int .i64 (k : Int)] w fun e w' => RBrEnd q (.err 10) w b X ps e w' := by
  have HP : Hid (∀ (u : ByteArray) W, u.size ≤ 100000 → Calls Tryz.prog 65 #[.string u] W fun e w' => e = .returned (.int .i64 (parN u.data.toList : Int)) ∧ w' = W) := hide (fun u W hu => rparam_any u W hu)
  have HB0 : Hid (∀ o, Below w.heap.size w (w.alloc o)) := hide (fun o => (Below.refl _ w).alloc (Nat.le_refl _) _)
  have hbw := h.lt
  have HH := hide h
  have HR := hide hr
  have HG := hide hg
  have HAL := hide (fun W => rallw_any k W hk)
  rw [hq] at HAL
  have hce : ∀ o, (w.alloc o).cell? ⟨b, 1, none⟩ = some (.int .i64 0) := fun o => ((h.below (unhide HB0 o)).err 0).1
  have hfe : ∀ o, (w.alloc o).frozen? ⟨b, 1, none⟩ = false := fun o => ((h.below (unhide HB0 o)).err 0).2.1
  have HER : Hid (∀ o, RAdds w b X ps 10 ((w.setCell ⟨b, 1, none⟩ (.int .i64 10)).alloc o)) := hide (fun o => (h.err 10).2.2.below ((Below.refl _ _).alloc (Nat.le_refl _) _))
  have HA : Hid (∀ w1 (t : ByteArray) (o : Int), t.size ≤ ts.size → Below w.heap.size w w1 → Calls Tryz.prog 28 #[.pointer (some ⟨b, 0, none⟩), .agg #[.int .i64 2, .string t, .bool q, .int .i64 o, .bool false, .slice none 0 0]] w1 fun e w' => e = .returned (.tuple #[]) ∧ RAdds w b X (addP ps (.mk 2 t.data.toList q o false [])) 0 w') := hide (fun w1 t o ht hb =>
    (rplain_add w1 b X ps 0 2 t q o false (h.below hb) ⟨by have := hr.1; omega, by have := hr.2; omega⟩).mono (fun e w' ⟨h1, h3⟩ => ⟨h1, h3.of_below hb⟩))
  clear h hr hg hq
  have hs1 : ts.size ≤ 100000 := by omega
  go_enter Tryz.func49, Tryz.ntmps49
  go_wp2_with fail
  refine (unhide HAL _).mono ?_
  rintro e w1 ⟨rfl, rfl⟩
  go_upto_region 1 with fail
  go_cut [33] from 17 to 33 (fun c wx => c = .bool false ∧ wx = w1.alloc (.cells #[.int .i64 2, .string ⟨#[]⟩, .bool q, .int .i64 0, .bool false, .slice none 0 0] 37))
  case first =>
    by_cases h1 : 1 < ts.size
    · have h1i : (1 : Int) < (ts.size : Int) := by omega
      have h0 : 0 < ts.size := by omega
      cases e35 : ((ts[0].toNat : Int) == 35) with
      | true =>
        have hgl := hide ((unhide HG).symm.trans (lenB_is h1 e35))
        have hx := hide (ext_list ts 1)
        have hxs : (ts.extract 1 ts.size).size ≤ 100000 := by rw [ByteArray.size_extract]; omega
        have hwr : IntKind.i64.wrap ((ts.size : Int) - 1) = (ts.size : Int) - 1 := by rw [IntKind.wrap_i64]; omega
        go_wp2_with fail
        refine (unhide HP _ _ hxs).mono ?_
        rintro e w1 ⟨rfl, rfl⟩
        rw [unhide hx]
        go_wp2
        go_meet
        exact ⟨congrArg Value.bool (by rw [← List.drop_one]; exact (unhide hgl).symm), rfl⟩
      | false =>
        have hgl := (unhide HG).symm.trans (lenB_no h0 e35)
        first
        | exact Bool.noConfusion hgl
        | (go_wp2
           go_meet
           exact ⟨rfl, rfl⟩)
    · have h1i : ¬ (1 : Int) < (ts.size : Int) := by omega
      have hgl := (unhide HG).symm.trans (lenB_short h1)
      first
      | exact Bool.noConfusion hgl
      | (go_wp2
         go_meet
         exact ⟨rfl, rfl⟩)
  case rest =>
    obtain ⟨rfl, rfl⟩ := hcut
    go_wp2_with fail
    refine (unhide HP _ _ hs1).mono ?_
    rintro e w2 ⟨rfl, rfl⟩
    rw [hn]
    go_wp2
    first | refine bodyPost_end (res0 rfl _ _) rfl ?_ | refine bodyPost_ret (res0 rfl _ _) rfl ?_
    exact ⟨rfl, by decide, ps, unhide HER _⟩
set_option maxRecDepth 20000 in
set_option maxHeartbeats 8000000 in
theorem rbr_whole (k : Nat) (ts : ByteArray) (w : World) (b : Nat) (X : Nat → Prop) (ps : List Prt) (q : Bool) (hk : k < 6) (hq : allW k = q) (hs : ts.size ≤ 4096) (h : RWt w b X ps 0) (hr : Room ps (ts.size + 1)) (hg : lenB ts.data.toList = false) (n : Nat) (hn : parN ts.data.toList = n) (h0 : n ≠ 0) (hw : n = ts.size) :
    Calls Tryz.prog 49 #[.pointer (some ⟨b, 0, none⟩), .string ts, .int .i64 (k : Int)] w fun e w' => RBrEnd q (.ok (.mk 2 ts.data.toList false 0 false [])) w b X ps e w' := by
  have HP : Hid (∀ (u : ByteArray) W, u.size ≤ 100000 → Calls Tryz.prog 65 #[.string u] W fun e w' => e = .returned (.int .i64 (parN u.data.toList : Int)) ∧ w' = W) := hide (fun u W hu => rparam_any u W hu)
  have HB0 : Hid (∀ o, Below w.heap.size w (w.alloc o)) := hide (fun o => (Below.refl _ w).alloc (Nat.le_refl _) _)
  have hbw := h.lt
  have HH := hide h
  have HR := hide hr
  have HG := hide hg
  have HAL := hide (fun W => rallw_any k W hk)
  rw [hq] at HAL
  have hce : ∀ o, (w.alloc o).cell? ⟨b, 1, none⟩ = some (.int .i64 0) := fun o => ((h.below (unhide HB0 o)).err 0).1
  have hfe : ∀ o, (w.alloc o).frozen? ⟨b, 1, none⟩ = false := fun o => ((h.below (unhide HB0 o)).err 0).2.1
  have HER : Hid (∀ o, RAdds w b X ps 10 ((w.setCell ⟨b, 1, none⟩ (.int .i64 10)).alloc o)) := hide (fun o => (h.err 10).2.2.below ((Below.refl _ _).alloc (Nat.le_refl _) _))
  have HA : Hid (∀ w1 (t : ByteArray) (o : Int), t.size ≤ ts.size → Below w.heap.size w w1 → Calls Tryz.prog 28 #[.pointer (some ⟨b, 0, none⟩), .agg #[.int .i64 2, .string t, .bool q, .int .i64 o, .bool false, .slice none 0 0]] w1 fun e w' => e = .returned (.tuple #[]) ∧ RAdds w b X (addP ps (.mk 2 t.data.toList q o false [])) 0 w') := hide (fun w1 t o ht hb =>
    (rplain_add w1 b X ps 0 2 t q o false (h.below hb) ⟨by have := hr.1; omega, by have := hr.2; omega⟩).mono (fun e w' ⟨h1, h3⟩ => ⟨h1, h3.of_below hb⟩))
  clear h hr hg hq
  have hs1 : ts.size ≤ 100000 := by omega
  have hn0 : ((n : Int) == 0) = false := by rw [beq_eq_false_iff_ne]; omega
  have hni : (n : Int) ≤ (ts.size : Int) := by omega
  have hxs : (ts.extract 0 n).size ≤ ts.size := by rw [ByteArray.size_extract]; omega
  have HX : Hid ((ts.extract 0 n).data.toList = ts.data.toList) := hide (by rw [ext_to, List.take_of_length_le (by rw [data_len]; omega)])
  have hem : (ts.extract n ts.size).toList.isEmpty = true := empty_of (by rw [ByteArray.size_extract]; omega)
  clear hw h0
  go_enter Tryz.func49, Tryz.ntmps49
  go_wp2_with fail
  refine (unhide HAL _).mono ?_
  rintro e w1 ⟨rfl, rfl⟩
  go_upto_region 1 with fail
  go_cut [33] from 17 to 33 (fun c wx => c = .bool false ∧ wx = w1.alloc (.cells #[.int .i64 2, .string ⟨#[]⟩, .bool q, .int .i64 0, .bool false, .slice none 0 0] 37))
  case first =>
    by_cases h1 : 1 < ts.size
    · have h1i : (1 : Int) < (ts.size : Int) := by omega
      have h0 : 0 < ts.size := by omega
      cases e35 : ((ts[0].toNat : Int) == 35) with
      | true =>
        have hgl := hide ((unhide HG).symm.trans (lenB_is h1 e35))
        have hx := hide (ext_list ts 1)
        have hxs : (ts.extract 1 ts.size).size ≤ 100000 := by rw [ByteArray.size_extract]; omega
        have hwr : IntKind.i64.wrap ((ts.size : Int) - 1) = (ts.size : Int) - 1 := by rw [IntKind.wrap_i64]; omega
        go_wp2_with fail
        refine (unhide HP _ _ hxs).mono ?_
        rintro e w1 ⟨rfl, rfl⟩
        rw [unhide hx]
        go_wp2
        go_meet
        exact ⟨congrArg Value.bool (by rw [← List.drop_one]; exact (unhide hgl).symm), rfl⟩
      | false =>
        have hgl := (unhide HG).symm.trans (lenB_no h0 e35)
        first
        | exact Bool.noConfusion hgl
        | (go_wp2
           go_meet
           exact ⟨rfl, rfl⟩)
    · have h1i : ¬ (1 : Int) < (ts.size : Int) := by omega
      have hgl := (unhide HG).symm.trans (lenB_short h1)
      first
      | exact Bool.noConfusion hgl
      | (go_wp2
         go_meet
         exact ⟨rfl, rfl⟩)
  case rest =>
    obtain ⟨rfl, rfl⟩ := hcut
    go_wp2_with fail
    refine (unhide HP _ _ hs1).mono ?_
    rintro e w2 ⟨rfl, rfl⟩
    rw [hn]
    go_wp2_with fail
    refine (unhide HA _ _ _ hxs (unhide HB0 _)).mono ?_
    rintro e w2 ⟨rfl, hR⟩
    have HRR := hide hR
    clear hR
    go_wp2
    first | refine bodyPost_end (res0 rfl _ _) rfl ?_ | refine bodyPost_ret (res0 rfl _ _) rfl ?_
    rw [unhide HX] at HRR
    exact ⟨rfl, unhide HRR⟩
end Go.Proofs.YtnamfjbfcbamjaaGreatDoor
namespace Go.Proofs.YtnamfjbfcbamjaaGreatDoor
open Go.RowKit
set_option maxRecDepth 20000 in
set_option maxHeartbeats 8000000 in
theorem rbr_e0 (k : Nat) (ts : ByteArray) (w : World) (b : Nat) (X : Nat → Prop) (ps : List Prt) (q : Bool) (hk : k < 6) (hq : allW k = q) (hs : ts.size ≤ 4096) (h : RWt w b X ps 0) (hr : Room ps (ts.size + 1)) (hg : lenB ts.data.toList = false) (n : Nat) (hn : parN ts.data.toList = n) (h0 : n ≠ 0) (hnl : n < ts.size) (cl : Bool) (hcl : colonL (ts.data.toList.drop n) = cl) (l2 : List UInt8) (hl2 : behindL (ts.data.toList.drop n) = l2) (r2 : ByteArray) (hr2 : r2 = BA l2) (hr2s : r2.size ≤ 4096) (hz : l2 = []) :
    Calls Tryz.prog 49 #[.pointer (some ⟨b, 0, none⟩), .string ts, .int .i64 (k : Int)] w fun e w' => RBrEnd q (.err 10) w b X ps e w' := by
  have HP : Hid (∀ (u : ByteArray) W, u.size ≤ 100000 → Calls Tryz.prog 65 #[.string u] W fun e w' => e = .returned (.int .i64 (parN u.data.toList : Int)) ∧ w' = W) := hide (fun u W hu => rparam_any u W hu)
  have HB0 : Hid (∀ o, Below w.heap.size w (w.alloc o)) := hide (fun o => (Below.refl _ w).alloc (Nat.le_refl _) _)
  have hbw := h.lt
  have HH := hide h
  have HR := hide hr
  have HG := hide hg
  have HAL := hide (fun W => rallw_any k W hk)
  rw [hq] at HAL
  have hce : ∀ o, (w.alloc o).cell? ⟨b, 1, none⟩ = some (.int .i64 0) := fun o => ((h.below (unhide HB0 o)).err 0).1
  have hfe : ∀ o, (w.alloc o).frozen? ⟨b, 1, none⟩ = false := fun o => ((h.below (unhide HB0 o)).err 0).2.1
  have HER : Hid (∀ o, RAdds w b X ps 10 ((w.setCell ⟨b, 1, none⟩ (.int .i64 10)).alloc o)) := hide (fun o => (h.err 10).2.2.below ((Below.refl _ _).alloc (Nat.le_refl _) _))
  have HA : Hid (∀ w1 (t : ByteArray) (o : Int), t.size ≤ ts.size → Below w.heap.size w w1 → Calls Tryz.prog 28 #[.pointer (some ⟨b, 0, none⟩), .agg #[.int .i64 2, .string t, .bool q, .int .i64 o, .bool false, .slice none 0 0]] w1 fun e w' => e = .returned (.tuple #[]) ∧ RAdds w b X (addP ps (.mk 2 t.data.toList q o false [])) 0 w') := hide (fun w1 t o ht hb =>
    (rplain_add w1 b X ps 0 2 t q o false (h.below hb) ⟨by have := hr.1; omega, by have := hr.2; omega⟩).mono (fun e w' ⟨h1, h3⟩ => ⟨h1, h3.of_below hb⟩))
  clear h hr hg hq
  have hs1 : ts.size ≤ 100000 := by omega
  have hn0 : ((n : Int) == 0) = false := by rw [beq_eq_false_iff_ne]; omega
  have hni : (n : Int) ≤ (ts.size : Int) := by omega
  obtain ⟨rs, hrs⟩ : ∃ x, x = ts.extract n ts.size := ⟨_, rfl⟩
  obtain ⟨tx, htx⟩ : ∃ x, x = ts.extract 0 n := ⟨_, rfl⟩
  have hrl : rs.data.toList = ts.data.toList.drop n := by rw [hrs, ext_list]
  have HTX : Hid (tx.data.toList = ts.data.toList.take n) := hide (by rw [htx, ext_to])
  have htxs : tx.size ≤ ts.size := by rw [htx, ByteArray.size_extract]; omega
  rw [← hrl] at hcl hl2
  have hrsz : rs.size = ts.size - n := by rw [← data_len, hrl, List.length_drop, data_len]
  have hr0 : 0 < rs.size := by omega
  have hem : rs.toList.isEmpty = false := nonempty_of hr0
  have hcol : colonL rs.data.toList = ((rs[0].toNat : Int) == 58) := head_i hr0 58 (by omega)
  have HR2 : Hid (r2 = BA (behindL rs.data.toList)) := hide (by rw [hl2, hr2])
  have HCOL := hide (hcl.symm.trans hcol)
  have hr4 : rs.size ≤ 4096 := by omega
  have HRS := hide hrs
  have HTS := hide htx
  have HL2 := hide hr2
  clear hrl hcol hrs htx hrsz hcl hl2 hr2 h0
  have hr2e : r2.toList.isEmpty = true := by rw [unhide HL2, hz, BA_toList]; rfl
  have hr2z : ¬ (1 : Int) < (r2.size : Int) := by rw [unhide HL2, hz]; decide
  clear hz
  go_enter Tryz.func49, Tryz.ntmps49
  go_wp2_with fail
  refine (unhide HAL _).mono ?_
  rintro e w1 ⟨rfl, rfl⟩
  go_upto_region 1 with fail
  go_cut [33] from 17 to 33 (fun c wx => c = .bool false ∧ wx = w1.alloc (.cells #[.int .i64 2, .string ⟨#[]⟩, .bool q, .int .i64 0, .bool false, .slice none 0 0] 37))
  case first =>
    by_cases h1 : 1 < ts.size
    · have h1i : (1 : Int) < (ts.size : Int) := by omega
      have h0 : 0 < ts.size := by omega
      cases e35 : ((ts[0].toNat : Int) == 35) with
      | true =>
        have hgl := hide ((unhide HG).symm.trans (lenB_is h1 e35))
        have hx := hide (ext_list ts 1)
        have hxs : (ts.extract 1 ts.size).size ≤ 100000 := by rw [ByteArray.size_extract]; omega
        have hwr : IntKind.i64.wrap ((ts.size : Int) - 1) = (ts.size : Int) - 1 := by rw [IntKind.wrap_i64]; omega
        go_wp2_with fail
        refine (unhide HP _ _ hxs).mono ?_
        rintro e w1 ⟨rfl, rfl⟩
        rw [unhide hx]
        go_wp2
        go_meet
        exact ⟨congrArg Value.bool (by rw [← List.drop_one]; exact (unhide hgl).symm), rfl⟩
      | false =>
        have hgl := (unhide HG).symm.trans (lenB_no h0 e35)
        first
        | exact Bool.noConfusion hgl
        | (go_wp2
           go_meet
           exact ⟨rfl, rfl⟩)
    · have h1i : ¬ (1 : Int) < (ts.size : Int) := by omega
      have hgl := (unhide HG).symm.trans (lenB_short h1)
      first
      | exact Bool.noConfusion hgl
      | (go_wp2
         go_meet
         exact ⟨rfl, rfl⟩)
  case rest =>
    obtain ⟨rfl, rfl⟩ := hcut
    go_wp2_with fail
    refine (unhide HP _ _ hs1).mono ?_
    rintro e w2 ⟨rfl, rfl⟩
    rw [hn]
    go_upto_region 10 with fail
    rw [← unhide HRS, ← unhide HTS]
    go_upto_if 62 with fail
    go_cut [1] from 60 to 65 (fun s wx => s = .string r2 ∧ wx = w1.alloc (.cells #[.int .i64 2, .string tx, .bool q, .int .i64 0, .bool cl, .slice none 0 0] 37))
    case first =>
      have hri : (1 : Int) ≤ (rs.size : Int) := by omega
      cases e58 : ((rs[0].toNat : Int) == 58) with
      | true =>
        have hc1 : cl = true := (unhide HCOL).trans e58
        have hx : rs.extract 1 rs.size = r2 := by
          have h1 : colonL rs.data.toList = true := (head_i hr0 58 (by omega)).trans e58
          rw [unhide HR2, extract_end]
          unfold behindL
          rw [if_pos h1]
        have HX := hide hx
        have HC := hide hc1
        clear hx hc1
        go_wp2
        go_meet
        exact ⟨congrArg Value.string (unhide HX), by first | rfl | exact Bool.noConfusion (unhide HC) | rw [unhide HC]⟩
      | false =>
        have hc1 : cl = false := (unhide HCOL).trans e58
        have hx : rs = r2 := by
          have h1 : ¬ colonL rs.data.toList = true := by rw [show colonL rs.data.toList = _ from head_i hr0 58 (by omega)]; rw [show ((58 : Nat) : Int) = 58 from rfl, e58]; simp
          rw [unhide HR2]
          unfold behindL
          rw [if_neg h1, BA_of]
        have HX := hide hx
        have HC := hide hc1
        clear hx hc1
        go_wp2
        go_meet
        exact ⟨congrArg Value.string (unhide HX), by first | rfl | exact Bool.noConfusion (unhide HC) | rw [unhide HC]⟩
    case rest =>
      obtain ⟨rfl, rfl⟩ := hcut
      go_wp2
      first | refine bodyPost_end (res0 rfl _ _) rfl ?_ | refine bodyPost_ret (res0 rfl _ _) rfl ?_
      exact ⟨rfl, by decide, ps, unhide HER _⟩
def bdOf (t : List UInt8) (op : Int) (cl : Bool) : Rd → Bd
  | .err e => .err e
  | .ok ps => .ok (.mk 2 t false op cl ps)
theorem rbr_add {w w0 w2 : World} {b : Nat} {X : Nat → Prop} {ps qs : List Prt} {v : Value} (tx : ByteArray) (q cl : Bool) (op x : Int) (h : RWt w b X ps 0) (hb0 : Below w.heap.size w w0) (hz : w.heap.size < w0.heap.size) (hb2 : Below w0.heap.size w0 w2) (hv : WAt w2 (fun k => w0.heap.size ≤ k ∧ k < w2.heap.size) v qs) (hl : ps.length ≤ 100000) (ht : tlen ps + tx.size ≤ 1000000) :
    (w2.setCell ⟨w.heap.size, 5, none⟩ v).cell? ⟨b, 1, none⟩ = some (.int .i64 0) ∧ (w2.setCell ⟨w.heap.size, 5, none⟩ v).frozen? ⟨b, 1, none⟩ = false ∧
    Calls Tryz.prog 28 #[.pointer (some ⟨b, 0, none⟩), .agg #[.int .i64 2, .string tx, .bool q, .int .i64 op, .bool cl, v]] ((w2.setCell ⟨w.heap.size, 5, none⟩ v).setCell ⟨b, 1, none⟩ (.int .i64 x)) fun e w' => e = .returned (.tuple #[]) ∧ RAdds w b X (addP ps (.mk 2 tx.data.toList q op cl qs)) x w' := by
  have hbw := h.lt
  have hhi := h.hi
  have hlo := h.lo
  have g5 := setb_grown w2 w.heap.size 5 v
  have hW2 : Below w.heap.size w (w2.setCell ⟨w.heap.size, 5, none⟩ v) := (hb0.trans (hb2.mono hb0.size)).trans (g5.below (Nat.le_trans hb0.size hb2.size) (fun k e => by omega))
  have h2 := h.below hW2
  obtain ⟨c1, f1, a1⟩ := h2.err x
  refine ⟨c1, f1, ?_⟩
  have g6 := setb_grown (w2.setCell ⟨w.heap.size, 5, none⟩ v) b 1 (.int .i64 x)
  obtain ⟨X3, h3, g3, hx3⟩ := a1
  have s2 := hb2.size
  have s5 := g5.size
  have s3 := g3.size
  have hv3 : WAt ((w2.setCell ⟨w.heap.size, 5, none⟩ v).setCell ⟨b, 1, none⟩ (.int .i64 x)) (fun k => w0.heap.size ≤ k ∧ k < w2.heap.size) v qs := hv.kept (fun k hk => by
    rw [g6.block k (by omega) (by omega)]
    exact g5.block k (by omega) (by omega)) (fun k hk => hk)
  refine (radd_any _ b X3 _ ps x _ (.mk 2 tx.data.toList q op cl qs) h3 ⟨v, rfl, hv3⟩ (fun k hk => ⟨by omega, by omega, fun e => ?_⟩) hl (by show tlen ps + tx.data.toList.length ≤ _; rw [data_len]; exact ht)).mono ?_
  · rcases hx3 k e with e | e
    · have := hhi k e; omega
    · have := hk.2; omega
  · rintro e w' ⟨rfl, a2⟩
    exact ⟨rfl, RAdds.of_below hW2 (RAdds.trans g3 hx3 a2)⟩
def twB : List UInt8 → Bool
  | c :: d :: _ => (d.toNat : Int) == (c.toNat : Int)
  | _ => false
set_option maxRecDepth 20000 in
set_option maxHeartbeats 8000000 in
theorem rbr_e1 (k : Nat) (ts : ByteArray) (w : World) (b : Nat) (X : Nat → Prop) (ps : List Prt) (q : Bool) (hk : k < 6) (hq : allW k = q) (hs : ts.size ≤ 4096) (h : RWt w b X ps 0) (hr : Room ps (ts.size + 1)) (hg : lenB ts.data.toList = false) (n : Nat) (hn : parN ts.data.toList = n) (h0 : n ≠ 0) (hnl : n < ts.size) (cl : Bool) (hcl : colonL (ts.data.toList.drop n) = cl) (l2 : List UInt8) (hl2 : behindL (ts.data.toList.drop n) = l2) (r2 : ByteArray) (hr2 : r2 = BA l2) (hr2s : r2.size ≤ 4096) (c : UInt8) (t : List UInt8) (hz : l2 = c :: t) (tw : Bool) (htw : twB l2 = tw) (e45 : ((c.toNat : Int) == 45) = false) (e61 : ((c.toNat : Int) == 61) = false) (e63 : ((c.toNat : Int) == 63) = false) (e43 : ((c.toNat : Int) == 43) = false) (e35 : ((c.toNat : Int) == 35) = false) (e37 : ((c.toNat : Int) == 37) = false) :
    Calls Tryz.prog 49 #[.pointer (some ⟨b, 0, none⟩), .string ts, .int .i64 (k : Int)] w fun e w' => RBrEnd q (.err 10) w b X ps e w' := by
  have HP : Hid (∀ (u : ByteArray) W, u.size ≤ 100000 → Calls Tryz.prog 65 #[.string u] W fun e w' => e = .returned (.int .i64 (parN u.data.toList : Int)) ∧ w' = W) := hide (fun u W hu => rparam_any u W hu)
  have HB0 : Hid (∀ o, Below w.heap.size w (w.alloc o)) := hide (fun o => (Below.refl _ w).alloc (Nat.le_refl _) _)
  have hbw := h.lt
  have HH := hide h
  have HR := hide hr
  have HG := hide hg
  have HAL := hide (fun W => rallw_any k W hk)
  rw [hq] at HAL
  have hce : ∀ o, (w.alloc o).cell? ⟨b, 1, none⟩ = some (.int .i64 0) := fun o => ((h.below (unhide HB0 o)).err 0).1
  have hfe : ∀ o, (w.alloc o).frozen? ⟨b, 1, none⟩ = false := fun o => ((h.below (unhide HB0 o)).err 0).2.1
  have HER : Hid (∀ o, RAdds w b X ps 10 ((w.setCell ⟨b, 1, none⟩ (.int .i64 10)).alloc o)) := hide (fun o => (h.err 10).2.2.below ((Below.refl _ _).alloc (Nat.le_refl _) _))
  have HA : Hid (∀ w1 (t : ByteArray) (o : Int), t.size ≤ ts.size → Below w.heap.size w w1 → Calls Tryz.prog 28 #[.pointer (some ⟨b, 0, none⟩), .agg #[.int .i64 2, .string t, .bool q, .int .i64 o, .bool false, .slice none 0 0]] w1 fun e w' => e = .returned (.tuple #[]) ∧ RAdds w b X (addP ps (.mk 2 t.data.toList q o false [])) 0 w') := hide (fun w1 t o ht hb =>
    (rplain_add w1 b X ps 0 2 t q o false (h.below hb) ⟨by have := hr.1; omega, by have := hr.2; omega⟩).mono (fun e w' ⟨h1, h3⟩ => ⟨h1, h3.of_below hb⟩))
  clear h hr hg hq
  have hs1 : ts.size ≤ 100000 := by omega
  have hn0 : ((n : Int) == 0) = false := by rw [beq_eq_false_iff_ne]; omega
  have hni : (n : Int) ≤ (ts.size : Int) := by omega
  obtain ⟨rs, hrs⟩ : ∃ x, x = ts.extract n ts.size := ⟨_, rfl⟩
  obtain ⟨tx, htx⟩ : ∃ x, x = ts.extract 0 n := ⟨_, rfl⟩
  have hrl : rs.data.toList = ts.data.toList.drop n := by rw [hrs, ext_list]
  have HTX : Hid (tx.data.toList = ts.data.toList.take n) := hide (by rw [htx, ext_to])
  have htxs : tx.size ≤ ts.size := by rw [htx, ByteArray.size_extract]; omega
  rw [← hrl] at hcl hl2
  have hrsz : rs.size = ts.size - n := by rw [← data_len, hrl, List.length_drop, data_len]
  have hr0 : 0 < rs.size := by omega
  have hem : rs.toList.isEmpty = false := nonempty_of hr0
  have hcol : colonL rs.data.toList = ((rs[0].toNat : Int) == 58) := head_i hr0 58 (by omega)
  have HR2 : Hid (r2 = BA (behindL rs.data.toList)) := hide (by rw [hl2, hr2])
  have HCOL := hide (hcl.symm.trans hcol)
  have hr4 : rs.size ≤ 4096 := by omega
  have HRS := hide hrs
  have HTS := hide htx
  have HL2 := hide hr2
  clear hrl hcol hrs htx hrsz hcl hl2 hr2 h0
  have hz0 : 0 < r2.size := by rw [unhide HL2, hz]; simp
  have hne : r2.toList.isEmpty = false := nonempty_of hz0
  have hr2l : r2.data.toList = c :: t := by rw [unhide HL2, hz, BA_list]
  have hc0 : r2[0]'hz0 = c := by
    have := head_get hz0
    rw [hr2l] at this
    injection this with h1 _
    exact h1.symm
  have HTW : Hid (tw = twB r2.data.toList) := hide (by rw [hr2l, ← hz, htw])
  have HC2 := hide hr2l
  clear hz htw hr2l
  go_enter Tryz.func49, Tryz.ntmps49
  go_wp2_with fail
  refine (unhide HAL _).mono ?_
  rintro e w1 ⟨rfl, rfl⟩
  go_upto_region 1 with fail
  go_cut [33] from 17 to 33 (fun c wx => c = .bool false ∧ wx = w1.alloc (.cells #[.int .i64 2, .string ⟨#[]⟩, .bool q, .int .i64 0, .bool false, .slice none 0 0] 37))
  case first =>
    by_cases h1 : 1 < ts.size
    · have h1i : (1 : Int) < (ts.size : Int) := by omega
      have h0 : 0 < ts.size := by omega
      cases e35 : ((ts[0].toNat : Int) == 35) with
      | true =>
        have hgl := hide ((unhide HG).symm.trans (lenB_is h1 e35))
        have hx := hide (ext_list ts 1)
        have hxs : (ts.extract 1 ts.size).size ≤ 100000 := by rw [ByteArray.size_extract]; omega
        have hwr : IntKind.i64.wrap ((ts.size : Int) - 1) = (ts.size : Int) - 1 := by rw [IntKind.wrap_i64]; omega
        go_wp2_with fail
        refine (unhide HP _ _ hxs).mono ?_
        rintro e w1 ⟨rfl, rfl⟩
        rw [unhide hx]
        go_wp2
        go_meet
        exact ⟨congrArg Value.bool (by rw [← List.drop_one]; exact (unhide hgl).symm), rfl⟩
      | false =>
        have hgl := (unhide HG).symm.trans (lenB_no h0 e35)
        first
        | exact Bool.noConfusion hgl
        | (go_wp2
           go_meet
           exact ⟨rfl, rfl⟩)
    · have h1i : ¬ (1 : Int) < (ts.size : Int) := by omega
      have hgl := (unhide HG).symm.trans (lenB_short h1)
      first
      | exact Bool.noConfusion hgl
      | (go_wp2
         go_meet
         exact ⟨rfl, rfl⟩)
  case rest =>
    obtain ⟨rfl, rfl⟩ := hcut
    go_wp2_with fail
    refine (unhide HP _ _ hs1).mono ?_
    rintro e w2 ⟨rfl, rfl⟩
    rw [hn]
    go_upto_region 10 with fail
    rw [← unhide HRS, ← unhide HTS]
    go_upto_if 62 with fail
    go_cut [1] from 60 to 65 (fun s wx => s = .string r2 ∧ wx = w1.alloc (.cells #[.int .i64 2, .string tx, .bool q, .int .i64 0, .bool cl, .slice none 0 0] 37))
    case first =>
      have hri : (1 : Int) ≤ (rs.size : Int) := by omega
      cases e58 : ((rs[0].toNat : Int) == 58) with
      | true =>
        have hc1 : cl = true := (unhide HCOL).trans e58
        have hx : rs.extract 1 rs.size = r2 := by
          have h1 : colonL rs.data.toList = true := (head_i hr0 58 (by omega)).trans e58
          rw [unhide HR2, extract_end]
          unfold behindL
          rw [if_pos h1]
        have HX := hide hx
        have HC := hide hc1
        clear hx hc1
        go_wp2
        go_meet
        exact ⟨congrArg Value.string (unhide HX), by first | rfl | exact Bool.noConfusion (unhide HC) | rw [unhide HC]⟩
      | false =>
        have hc1 : cl = false := (unhide HCOL).trans e58
        have hx : rs = r2 := by
          have h1 : ¬ colonL rs.data.toList = true := by rw [show colonL rs.data.toList = _ from head_i hr0 58 (by omega)]; rw [show ((58 : Nat) : Int) = 58 from rfl, e58]; simp
          rw [unhide HR2]
          unfold behindL
          rw [if_neg h1, BA_of]
        have HX := hide hx
        have HC := hide hc1
        clear hx hc1
        go_wp2
        go_meet
        exact ⟨congrArg Value.string (unhide HX), by first | rfl | exact Bool.noConfusion (unhide HC) | rw [unhide HC]⟩
    case rest =>
      obtain ⟨rfl, rfl⟩ := hcut
      go_upto_region 18 with fail
      go_cut [9] from 70 to 78 (fun x wx => x = .bool tw ∧ wx = w1.alloc (.cells #[.int .i64 2, .string tx, .bool q, .int .i64 0, .bool cl, .slice none 0 0] 37))
      case first =>
        by_cases h1 : 1 < r2.size
        · have h1i : (1 : Int) < (r2.size : Int) := by omega
          have htwd : Hid (tw = (((r2[1]'h1).toNat : Int) == (c.toNat : Int))) := hide (by
            have e1 : r2.data.toList[1]'(by rw [data_len]; exact h1) = r2[1]'h1 := rfl
            rw [unhide HTW]
            revert e1
            have hl := unhide HC2
            have hlen : r2.data.toList.length = r2.size := data_len r2
            cases t with
            | nil => rw [hl] at hlen; simp at hlen; omega
            | cons d t =>
              intro e1
              have e2 : r2.data.toList[1]? = some (r2[1]'h1) := by rw [← e1]; exact List.getElem?_eq_getElem _
              rw [hl] at e2 ⊢
              simp at e2
              rw [← e2]
              rfl)
          go_wp2
          go_meet
          exact ⟨by first | rfl | exact Bool.noConfusion (unhide htwd) | rw [unhide htwd], rfl⟩
        · have h1i : ¬ (1 : Int) < (r2.size : Int) := by omega
          have htwd : Hid (tw = false) := hide ((unhide HTW).trans (by
            have hl := unhide HC2
            have hlen : r2.data.toList.length = r2.size := data_len r2
            cases t with
            | nil => rw [hl]; rfl
            | cons d t => rw [hl] at hlen; simp at hlen; omega))
          go_wp2
          go_meet
          exact ⟨by first | rfl | exact Bool.noConfusion (unhide htwd) | rw [unhide htwd], rfl⟩
      case rest =>
        obtain ⟨rfl, rfl⟩ := hcut
        go_wp2
        first | refine bodyPost_end (res0 rfl _ _) rfl ?_ | refine bodyPost_ret (res0 rfl _ _) rfl ?_
        exact ⟨rfl, by decide, ps, unhide HER _⟩
end Go.Proofs.YtnamfjbfcbamjaaGreatDoor

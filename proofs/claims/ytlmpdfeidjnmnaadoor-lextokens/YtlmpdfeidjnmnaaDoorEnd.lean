/-
  The end line that a Word names: the lexer's 'endLine'.
-/
import Derived.Test.YtlmpdfeidjnmnaaDoorOwn
namespace Go.Proofs.YtlmpdfeidjnmnaaDoor
open Go.RowKit

/-- A Word's bytes without its quotes. 'f': fuel, at least the length. -/
def endF : Nat → Bool → List UInt8 → List UInt8
  | 0, _, _ => []
  | _ + 1, _, [] => []
  | f + 1, ins, c :: r =>
    if c == 92 && !r.isEmpty then unesc (r.headD 0) ins ++ endF f ins (r.drop 1)
    else if c == 34 then endF f (!ins) r
    else if c == 39 && !ins && decide (0 ≤ Lib.indexByte r 39) then r.takeWhile (fun x => x != 39) ++ endF f ins ((r.dropWhile (fun x => x != 39)).drop 1)
    else c :: endF f ins r
def endL (l : List UInt8) : List UInt8 := endF l.length false l

theorem endF_nil (f : Nat) (ins : Bool) : endF f ins [] = [] := by cases f <;> rfl
theorem endF_esc (f : Nat) (ins : Bool) (d : UInt8) (r : List UInt8) : endF (f + 1) ins (92 :: d :: r) = unesc d ins ++ endF f ins r := rfl
theorem endF_two (f : Nat) (ins : Bool) (r : List UInt8) : endF (f + 1) ins (34 :: r) = endF f (!ins) r := rfl
theorem endF_one (f : Nat) (r : List UInt8) (h : 0 ≤ Lib.indexByte r 39) : endF (f + 1) false (39 :: r) = r.takeWhile (fun x => x != 39) ++ endF f false ((r.dropWhile (fun x => x != 39)).drop 1) := by
  simp [endF, h]
theorem endF_else (f : Nat) (ins : Bool) (c : UInt8) (r : List UInt8) (h1 : c = 92 → r = []) (h2 : c ≠ 34) (h3 : c = 39 → ins = true ∨ ¬ 0 ≤ Lib.indexByte r 39) : endF (f + 1) ins (c :: r) = c :: endF f ins r := by
  have e1 : (c == 92 && !r.isEmpty) = false := by
    by_cases h : c = 92
    · rw [h1 h]; simp
    · simp [h]
  have e2 : (c == 34) = false := beq_false_of_ne h2
  have e3 : (c == 39 && !ins && decide (0 ≤ Lib.indexByte r 39)) = false := by
    by_cases h : c = 39
    · rcases h3 h with h' | h'
      · simp [h']
      · simp [h']
    · simp [h]
  rw [endF, e1, e2, e3]
  rfl
theorem unesc_len (d : UInt8) (ins : Bool) : (unesc d ins).length ≤ 2 := by
  unfold unesc
  split
  · simp
  · split <;> simp

def strLen : Value → Nat
  | .string s => s.size
  | _ => 0

theorem front_list {x : ByteArray} (h : 0 < x.size) : x.data.toList = x[0] :: (x.extract 1 x.size).data.toList := by
  have := drop_at (s := x) (p := 0) h
  rw [extract_end]
  simpa using this
theorem ext_size (x : ByteArray) : (x.extract 1 x.size).size = x.size - 1 := by rw [ByteArray.size_extract]; omega
theorem empty_of {x : ByteArray} (h : x.size = 0) : x = ⟨#[]⟩ := by
  have e : x.data.toList = [] := List.eq_nil_of_length_eq_zero (by rw [data_len]; exact h)
  rw [← BA_of x, e]
  rfl

theorem own_kept {w w1 : World} {base : Nat} {v : Value} {l : List UInt8} (h : OwnB w base v l) (hb : Below w.heap.size w w1) : OwnB w1 base v l := by
  obtain ⟨h0, h1 | ⟨g, cap, cur, h1, h2, h3, h4⟩⟩ := h
  · exact ⟨h0, .inl h1⟩
  · exact ⟨h0, .inr ⟨g, cap, cur, h1, h2, (hb.block g (Array.getElem?_eq_some_iff.1 h3).1).trans h3, h4⟩⟩
theorem below_drew (w : World) (k : Nat) : Below w.heap.size w (w.drewN k) := below_of_grown (grown_drewN w k)
theorem is_empty {x : ByteArray} (h : x.size = 0) : x.toList.isEmpty = true := by
  rw [ByteArray.toList_eq, empty_of h]; rfl
theorem not_empty {x : ByteArray} (h : 0 < x.size) : x.toList.isEmpty = false := by
  rw [ByteArray.toList_eq, front_list h]; rfl
theorem byte_is {c : UInt8} {n : Nat} (h : c.toNat = n) : ((c.toNat : Int) == (n : Int)) = true := by rw [h]; simp
theorem byte_not {c : UInt8} {n : Nat} (h : ¬ c.toNat = n) : ((c.toNat : Int) == (n : Int)) = false := by
  rw [beq_eq_false_iff_ne]; omega
theorem byte_eq {c d : UInt8} (h : c.toNat = d.toNat) : c = d := UInt8.toNat_inj.1 h
theorem byte_ne {c d : UInt8} (h : ¬ c.toNat = d.toNat) : c ≠ d := fun e => h (by rw [e])

theorem own_belowB {w wr w1 : World} {base : Nat} {v : Value} {l : List UInt8} (hown : OwnB wr base v l) (hbel : Below base w wr) (hb : base ≤ wr.heap.size) (hg : wr.grownBy w1 v.ownBlock) : Below base w w1 :=
  hbel.grown hg hb (fun k hk => (World.ownsRow.lt hown k hk).1)
theorem own_below {w wr w1 : World} {base : Nat} {v : Value} {l : List UInt8} {o : Obj} (hown : OwnB wr base v l) (hbel : Below base w wr) (hb : base ≤ wr.heap.size) (hg : (wr.alloc o).grownBy w1 v.ownBlock) : Below base w w1 :=
  (hbel.alloc hb o).grown hg (by simp; omega) (fun k hk => (World.ownsRow.lt hown k hk).1)

set_option maxRecDepth 20000 in
set_option maxHeartbeats 4000000 in
theorem endLine_any (s : ByteArray) (m : Int) (w : World) (hs : s.size < 4294967281) (hm : w.cell? ⟨1, 0, none⟩ = some (.int .i64 m)) (h1 : 1 < w.heap.size) :
    Calls Tryd.prog 65 #[.string s] w fun e w' => e = .returned (.string (BA (endL s.data.toList))) ∧ Below w.heap.size w w' := by
  obtain ⟨i0, hi, hz0, hz1, hz2⟩ := info_of info_byte
  obtain ⟨R, hR⟩ : ∃ R, R = endL s.data.toList := ⟨_, rfl⟩
  have HR0 : Hid ([] ++ endF s.size false s.data.toList = R) := hide (by rw [hR]; unfold endL; rw [data_len]; rfl)
  rw [← hR]
  clear hR
  have HM := hide hm
  clear hm
  go_enter Tryd.func65, Tryd.ntmps65
  go_wp2
  go_loopw [0, 3, 4] (fun a v c wr => ∃ (x : ByteArray) (b : Bool) (l : List UInt8) (f : Nat), a = .string x ∧ c = .bool b ∧ x.size ≤ f ∧ l.length + x.size ≤ s.size ∧ l ++ endF f b x.data.toList = R ∧ OwnB wr w.heap.size v l ∧ Below w.heap.size w wr) (fun a _ _ _ => strLen a)
  case atStart => exact ⟨s, false, [], s.size, rfl, rfl, Nat.le_refl _, by simp, unhide HR0, ownB_nil _ _, Below.refl _ _⟩
  case round =>
    obtain ⟨x, b, l, f, rfl, rfl, hxf, hlx, hr, hown, hbel⟩ := hrel
    have HR := hide hr
    clear hr
    by_cases hx0 : x.size = 0
    · have hx := empty_of hx0
      subst hx
      have hl : l = R := by have := unhide HR; rw [show (⟨#[]⟩ : ByteArray).data.toList = [] from rfl, endF_nil, List.append_nil] at this; exact this
      have HL := hide hl
      clear hl hxf hlx hx0
      have hcv := hown.text
      go_wp2
      go_ret
      rw [unhide HL]
      exact ⟨rfl, hbel⟩
    have hxp : 0 < x.size := by omega
    have hxe := not_empty hxp
    obtain ⟨f, rfl⟩ : ∃ g, f = g + 1 := ⟨f - 1, by omega⟩
    have HXL := hide (front_list hxp)
    have hrs := ext_size x
    obtain ⟨r, hrr⟩ : ∃ r, r = x.extract 1 x.size := ⟨_, rfl⟩
    have HRR := hide hrr
    rw [← hrr] at HXL hrs
    have hra : r.size + 1 ≤ x.size := by omega
    have hrb : x.size ≤ r.size + 1 := by omega
    clear hrr hx0 hrs
    go_wp2_with fail
    go_quiet (fail)
    rw [← unhide HRR]
    replace hown := own_kept hown (below_drew wr nq)
    replace hbel := hbel.trans ((below_drew wr nq).mono hbel.size)
    obtain ⟨wA, hwA⟩ : ∃ q, q = wr.drewN nq := ⟨_, rfl⟩
    rw [← hwA] at hown hbel
    rw [← hwA]
    clear hwA
    by_cases c92 : x[0].toNat = 92
    · have k92 : ((x[0].toNat : Int) == 92) = true := byte_is c92
      by_cases hr0 : r.size = 0
      · have hre := is_empty hr0
        have hrl : r.data.toList = [] := by rw [empty_of hr0]
        have c34 : ¬ x[0].toNat = 34 := by omega
        have c39 : ¬ x[0].toNat = 39 := by omega
        have k34 : ((x[0].toNat : Int) == 34) = false := byte_not c34
        have k39 : ((x[0].toNat : Int) == 39) = false := byte_not c39
        have HST := hide (endF_else f b x[0] r.data.toList (fun _ => hrl) (byte_ne c34) (fun h => absurd (congrArg UInt8.toNat h) c39))
        clear c34 c39 hrl hr0 c92
        go_wp2_with (first
          | (at_builtin; refine wpList_append_own _ rfl (.tmp 16) (.tmp 18) 79 rfl w.heap.size 5 i0 (.int .u8 0) 1 1 und_bytes hi hz0 hz1 hz2 rfl (by decide) _ _ _ rfl (hown.alloc _) ⟨wA.heap.size, 0, none⟩ 1 1 [.int .u8 (x[0].toNat : Int)] rfl rfl one_cell one_is ?c3 ?c4 ?c5 ?_)
          | go_in)
        case c3 => unfold maxLen; omega
        case c4 => omega
        case c5 => have := hbel.size; simp; omega
        intro v' w1 hown' hgrow _
        have hb' := own_below hown hbel hbel.size hgrow
        have ho' : OwnB w1 w.heap.size v' (l ++ [x[0]]) := own_push (zs := [.int .u8 (x[0].toNat : Int)]) (by simp) (by simp [Lib.byteCells]) hown'
        have HR' := hide (show (l ++ [x[0]]) ++ endF f b r.data.toList = R by
          rw [← unhide HR, unhide HXL, unhide HST]; simp)
        clear hown' hgrow hown hbel
        go_wp2
        go_roundw
        case rel => exact ⟨r, b, l ++ [x[0]], f, rfl, rfl, by omega, by simp; omega, unhide HR', ho', hb'⟩
        case measure => simp only [strLen]; omega
      · have hrp : 0 < r.size := by omega
        have hre := not_empty hrp
        have HST := hide (show endF (f + 1) b (x[0] :: r.data.toList) = unesc r[0] b ++ endF f b (r.extract 1 r.size).data.toList by
          rw [show x[0] = 92 from byte_eq c92, front_list hrp]; exact endF_esc _ _ _ _)
        have hrs2 : (r.extract 1 r.size).size + 1 ≤ r.size := by rw [ext_size]; omega
        clear c92 hr0
        go_wp2_with fail
        refine (unescaped_any r[0] b _).mono ?_
        rintro en w1 ⟨v1, rfl, b1, o1⟩
        have hown1 := own_kept hown b1
        have hbel1 := hbel.trans (b1.mono hbel.size)
        have hul := unesc_len r[0] b
        obtain ⟨U, hU⟩ : ∃ U, U = unesc r[0] b := ⟨_, rfl⟩
        rw [← hU] at HST o1 hul
        clear hU hown hbel b1
        have HR' := hide (show (l ++ U) ++ endF f b (r.extract 1 r.size).data.toList = R by
          rw [← unhide HR, unhide HXL, unhide HST]; simp)
        obtain ⟨_, ⟨rfl, h0⟩ | ⟨g, cap, cur, hv1, hg0⟩⟩ := id o1
        · have hu0 : U = [] := List.eq_nil_of_length_eq_zero h0
          subst hu0
          rw [List.append_nil] at HR'
          clear h0 o1
          go_wp2_with (first
            | (at_builtin; refine wpList_append_own_none rfl (.tmp 27) (.tmp 31) 79 rfl w.heap.size 5 i0 1 und_bytes hi _ _ _ rfl hown1 rfl ?_)
            | go_in)
          go_wp2
          go_roundw
          case rel => exact ⟨r.extract 1 r.size, b, l, f, rfl, rfl, by omega, by omega, unhide HR', hown1, hbel1⟩
          case measure => simp only [strLen]; omega
        · have hcs := World.ownsRow.cells o1 (g := g) (by rw [hv1]; rfl)
          subst hv1
          clear hg0 o1
          go_wp2_with (first
            | (at_builtin; refine wpList_append_own _ rfl (.tmp 27) (.tmp 31) 79 rfl w.heap.size 5 i0 (.int .u8 0) 1 1 und_bytes hi hz0 hz1 hz2 rfl (by decide) _ _ _ rfl hown1 ⟨g, 0, none⟩ U.length cap (Lib.byteCells U) rfl (by simp [Lib.byteCells]) hcs (bytes_is U) ?c3 ?c4 ?c5 ?_)
            | go_in)
          case c3 => unfold maxLen; omega
          case c4 => omega
          case c5 => exact hbel1.size
          intro v' w2 hown' hgrow _
          have hb' := own_belowB hown1 hbel1 hbel1.size hgrow
          have ho' : OwnB w2 w.heap.size v' (l ++ U) := own_push rfl rfl hown'
          clear hown' hgrow hown1 hbel1 hcs
          go_wp2
          go_roundw
          case rel => exact ⟨r.extract 1 r.size, b, l ++ U, f, rfl, rfl, by omega, by rw [List.length_append]; omega, unhide HR', ho', hb'⟩
          case measure => simp only [strLen]; omega
    have k92 : ((x[0].toNat : Int) == 92) = false := byte_not c92
    by_cases c34 : x[0].toNat = 34
    · have k34 : ((x[0].toNat : Int) == 34) = true := byte_is c34
      have HR' := hide (show l ++ endF f (!b) r.data.toList = R by
        rw [← unhide HR, unhide HXL, show x[0] = 34 from byte_eq c34]; rfl)
      clear c34 c92
      go_wp2
      go_roundw
      case rel => exact ⟨r, !b, l, f, rfl, rfl, by omega, by omega, unhide HR', hown, hbel⟩
      case measure => simp only [strLen]; omega
    have k34 : ((x[0].toNat : Int) == 34) = false := byte_not c34
    by_cases c39 : x[0].toNat = 39
    · have k39 : ((x[0].toNat : Int) == 39) = true := byte_is c39
      cases b with
      | true =>
        have HST := hide (endF_else f true x[0] r.data.toList (fun h => absurd (congrArg UInt8.toNat h) c92) (byte_ne c34) (fun _ => .inl rfl))
        clear c92 c34 c39
        go_wp2_with (first
          | (at_builtin; refine wpList_append_own _ rfl (.tmp 16) (.tmp 18) 79 rfl w.heap.size 5 i0 (.int .u8 0) 1 1 und_bytes hi hz0 hz1 hz2 rfl (by decide) _ _ _ rfl (hown.alloc _) ⟨wA.heap.size, 0, none⟩ 1 1 [.int .u8 (x[0].toNat : Int)] rfl rfl one_cell one_is ?c3 ?c4 ?c5 ?_)
          | go_in)
        case c3 => unfold maxLen; omega
        case c4 => omega
        case c5 => have := hbel.size; simp; omega
        intro v' w1 hown' hgrow _
        have hb' := own_below hown hbel hbel.size hgrow
        have ho' : OwnB w1 w.heap.size v' (l ++ [x[0]]) := own_push (zs := [.int .u8 (x[0].toNat : Int)]) (by simp) (by simp [Lib.byteCells]) hown'
        have HR' := hide (show (l ++ [x[0]]) ++ endF f true r.data.toList = R by
          rw [← unhide HR, unhide HXL, unhide HST]; simp)
        clear hown' hgrow hown hbel
        go_wp2
        go_roundw
        case rel => exact ⟨r, true, l ++ [x[0]], f, rfl, rfl, by omega, by simp; omega, unhide HR', ho', hb'⟩
        case measure => simp only [strLen]; omega
      | false =>
        have hct := Tryd.strings_Contains_one r 39 wA
        obtain ⟨K, hK⟩ : ∃ K, K = Lib.indexByte r.data.toList 39 := ⟨_, rfl⟩
        rw [← hK] at hct
        have HCT := hide hct
        clear hct
        by_cases hin : 0 ≤ K
        · have HST := hide (endF_one f r.data.toList (by rw [← hK]; exact hin))
          have hmw := (hbel.cell (p := ⟨1, 0, none⟩) h1).trans (unhide HM)
          have hct := Tryd.strings_Cut r ⟨#[39]⟩ m wA (by omega) hmw
          rw [show (⟨#[39]⟩ : ByteArray).data.toList = [39] from rfl, cut_one] at hct
          have hsum := congrArg List.length (List.takeWhile_append_dropWhile (p := fun x => x != 39) (l := r.data.toList))
          rw [List.length_append, data_len] at hsum
          have hd1 : (((r.data.toList).dropWhile (fun x => x != 39)).drop 1).length ≤ ((r.data.toList).dropWhile (fun x => x != 39)).length := by rw [List.length_drop]; omega
          obtain ⟨A, hA⟩ : ∃ A, A = (r.data.toList).takeWhile (fun x => x != 39) := ⟨_, rfl⟩
          obtain ⟨B, hB⟩ : ∃ B, B = ((r.data.toList).dropWhile (fun x => x != 39)).drop 1 := ⟨_, rfl⟩
          rw [← hA, ← hB] at HST
          rw [← hA, ← hB] at hct
          rw [← hA] at hsum
          rw [← hB] at hd1
          have hab : A.length + B.length ≤ r.size := by omega
          have HCU := hide hct
          have HR' := hide (show (l ++ A) ++ endF f false B = R by
            rw [← unhide HR, unhide HXL, show x[0] = 39 from byte_eq c39, unhide HST]; simp)
          clear hct hsum hd1 hA hB hK HST hmw c92 c34 c39
          go_wp2_with fail
          refine (unhide HCT).mono ?_
          rintro en w1 ⟨rfl, hw1⟩
          rw [show w1 = wA from hw1]
          clear hw1
          go_wp2_with fail
          refine (unhide HCU).mono ?_
          rintro en w2 ⟨rfl, k2, hw2⟩
          have b2 : Below wA.heap.size wA w2 := by rw [hw2]; exact below_drew wA k2
          clear hw2
          have hown1 := own_kept hown b2
          have hbel1 := hbel.trans (b2.mono hbel.size)
          clear hown hbel b2 HCT HCU
          go_wp2_with (first
            | (at_builtin; refine Lib.wpList_append_own_string _ rfl (.tmp 57) (.tmp 58) 79 9 rfl w.heap.size 5 i0 und_bytes und_str hi hz0 hz1 hz2 _ _ _ rfl hown1 (BA A) rfl ?c3 ?c4 ?c5 ?_)
            | go_in)
          case c3 => unfold maxLen; rw [BA_size]; omega
          case c4 => rw [BA_size]; omega
          case c5 => exact hbel1.size
          intro v' w3 hown' hgrow _
          have hb' := own_belowB hown1 hbel1 hbel1.size hgrow
          have ho' : OwnB w3 w.heap.size v' (l ++ A) := own_push rfl rfl hown'
          clear hown' hgrow hown1 hbel1
          go_wp2
          go_roundw
          case rel => exact ⟨BA B, false, l ++ A, f, rfl, rfl, by rw [BA_size]; omega, by rw [List.length_append, BA_size]; omega, unhide HR', ho', hb'⟩
          case measure =>
            simp only [strLen]
            rw [show (⟨B.toArray⟩ : ByteArray).size = B.length from rfl]
            omega
        · have HST := hide (endF_else f false x[0] r.data.toList (fun h => absurd (congrArg UInt8.toNat h) c92) (byte_ne c34) (fun _ => .inr (by rw [← hK]; exact hin)))
          clear c92 c34 c39 hK
          go_wp2_with fail
          refine (unhide HCT).mono ?_
          rintro en w1 ⟨rfl, hw1⟩
          rw [show w1 = wA from hw1]
          clear hw1
          go_wp2_with (first
            | (at_builtin; refine wpList_append_own _ rfl (.tmp 16) (.tmp 18) 79 rfl w.heap.size 5 i0 (.int .u8 0) 1 1 und_bytes hi hz0 hz1 hz2 rfl (by decide) _ _ _ rfl (hown.alloc _) ⟨wA.heap.size, 0, none⟩ 1 1 [.int .u8 (x[0].toNat : Int)] rfl rfl one_cell one_is ?c3 ?c4 ?c5 ?_)
            | go_in)
          case c3 => unfold maxLen; omega
          case c4 => omega
          case c5 => have := hbel.size; simp; omega
          intro v' w1 hown' hgrow _
          have hb' := own_below hown hbel hbel.size hgrow
          have ho' : OwnB w1 w.heap.size v' (l ++ [x[0]]) := own_push (zs := [.int .u8 (x[0].toNat : Int)]) (by simp) (by simp [Lib.byteCells]) hown'
          have HR' := hide (show (l ++ [x[0]]) ++ endF f false r.data.toList = R by
            rw [← unhide HR, unhide HXL, unhide HST]; simp)
          clear hown' hgrow hown hbel
          go_wp2
          go_roundw
          case rel => exact ⟨r, false, l ++ [x[0]], f, rfl, rfl, by omega, by simp; omega, unhide HR', ho', hb'⟩
          case measure => simp only [strLen]; omega
    have k39 : ((x[0].toNat : Int) == 39) = false := byte_not c39
    have HST := hide (endF_else f b x[0] r.data.toList (fun h => absurd (congrArg UInt8.toNat h) c92) (byte_ne c34) (fun h => absurd (congrArg UInt8.toNat h) c39))
    clear c92 c34 c39
    go_wp2_with (first
      | (at_builtin; refine wpList_append_own _ rfl (.tmp 16) (.tmp 18) 79 rfl w.heap.size 5 i0 (.int .u8 0) 1 1 und_bytes hi hz0 hz1 hz2 rfl (by decide) _ _ _ rfl (hown.alloc _) ⟨wA.heap.size, 0, none⟩ 1 1 [.int .u8 (x[0].toNat : Int)] rfl rfl one_cell one_is ?c3 ?c4 ?c5 ?_)
      | go_in)
    case c3 => unfold maxLen; omega
    case c4 => omega
    case c5 => have := hbel.size; simp; omega
    intro v' w1 hown' hgrow _
    have hb' := own_below hown hbel hbel.size hgrow
    have ho' : OwnB w1 w.heap.size v' (l ++ [x[0]]) := own_push (zs := [.int .u8 (x[0].toNat : Int)]) (by simp) (by simp [Lib.byteCells]) hown'
    have HR' := hide (show (l ++ [x[0]]) ++ endF f b r.data.toList = R by
      rw [← unhide HR, unhide HXL, unhide HST]; simp)
    clear hown' hgrow hown hbel
    go_wp2
    go_roundw
    case rel => exact ⟨r, b, l ++ [x[0]], f, rfl, rfl, by omega, by simp; omega, unhide HR', ho', hb'⟩
    case measure => simp only [strLen]; omega

end Go.Proofs.YtlmpdfeidjnmnaaDoor

/- Which blocks a step may turn; rows that a call owns.; The end line that a Word names: the lexer's 'endLine'.; strings.Builder's WriteString at this program. -/
import Derived.Test.YtojjfdobilkknaaGreatDoorM03
import Derived.Test.YtojjfdobilkknaaGreatDoorM01
set_option maxRecDepth 20000
set_option maxHeartbeats 4000000
namespace Go.Proofs.YtojjfdobilkknaaGreatDoor
open Go.RowKit
structure GrownS (w w1 : World) (S : Nat → Prop) : Prop where
 os : w1.os = w.os
 tape : w1.tape = w.tape
 output : w1.output = w.output
 size : w.heap.size ≤ w1.heap.size
 block : ∀ k, k < w.heap.size → ¬ S k → w1.heap[k]? = w.heap[k]?
theorem GrownS.of {w w1 : World} {row : Option Nat} {S : Nat → Prop} (h : w.grownBy w1 row) (hs : ∀ k, some k = row → S k) : GrownS w w1 S :=
 ⟨h.os, h.tape, h.output, h.size, fun k hk hn => h.block k hk (fun e => hn (hs k e))⟩
theorem GrownS.trans {w w1 w2 : World} {S : Nat → Prop} (h : GrownS w w1 S) (h2 : GrownS w1 w2 S) : GrownS w w2 S :=
 ⟨h2.os.trans h.os, h2.tape.trans h.tape, h2.output.trans h.output, lee h.size h2.size, fun k hk hn => (h2.block k (lle hk h.size) hn).trans (h.block k hk hn)⟩
theorem GrownS.mono {w w1 : World} {S T : Nat → Prop} (h : GrownS w w1 S) (hs : ∀ k, k < w.heap.size → S k → T k) : GrownS w w1 T :=
 ⟨h.os, h.tape, h.output, h.size, fun k hk hn => h.block k hk (fun e => hn (hs k hk e))⟩
theorem GrownS.below {w w1 : World} {S : Nat → Prop} {n : Nat} (h : GrownS w w1 S) (hn : n ≤ w.heap.size) (hs : ∀ k, S k → n ≤ k) : Below n w w1 :=
 ⟨h.os, h.tape, h.output, h.size, fun k hk => h.block k (by omega) (fun e => by have := hs k e; omega)⟩
theorem Blk.grownS {w w1 : World} {S : Nat → Prop} {b : Nat} {t : TypeId} {cs : Array Value} (h : Blk w b t cs) (hg : GrownS w w1 S) (hb : ¬ S b) : Blk w1 b t cs := (hg.block b h.lt hb).trans h
theorem own_type {w : World} {base n k sz : Nat} {e t : TypeId} {v : Value} {xs : List Value} {cs : Array Value} (h : w.ownsRow base e sz v n xs) (hb : Blk w k t cs) (hne : t ≠ e) : some k ≠ v.ownBlock := by
 rcases h.2 with ⟨rfl, _⟩ | ⟨g, cap, cur, rfl, _, hg, _⟩
 ·simp [Value.ownBlock]
 ·intro hk
  have hk : k = g := by simpa [Value.ownBlock] using hk
  subst hk
  rw [show w.heap[k]? = _ from hb] at hg
  injection hg with hg
  injection hg with _ h2 _
  exact hne h2
theorem own_grownS {w w1 : World} {base n sz : Nat} {e : TypeId} {v : Value} {xs : List Value} {S : Nat → Prop} (h : w.ownsRow base e sz v n xs) (hg : GrownS w w1 S) (hv : ∀ k, v.ownBlock = some k → ¬ S k) : w1.ownsRow base e sz v n xs := by
 obtain ⟨h0, h1 | ⟨g, cap, cur, rfl, h2, h3, h4⟩⟩ := h
 ·exact ⟨h0, .inl h1⟩
 ·exact ⟨h0, .inr ⟨g, cap, cur, rfl, h2, (hg.block g (Array.getElem?_eq_some_iff.1 h3).1 (hv g rfl)).trans h3, h4⟩⟩
theorem gsb {w w1 : World} {S : Nat → Prop} (h : Below w.heap.size w w1) : GrownS w w1 S := ⟨h.os, h.tape, h.output, h.size, fun k hk _ => h.block k hk⟩
theorem bdr (w : World) (k : Nat) : Below w.heap.size w (w.drewN k) := below_of_grown (gdn w k)
theorem cell_alloc {w : World} {a : Addr} {v : Value} (h : w.cell? a = some v) (o : Obj) : (w.alloc o).cell? a = some v := (World.grownBy_alloc w o none).cell h (by simp)
theorem own_drew {w : World} {B n sz : Nat} {e : TypeId} {v : Value} {xs : List Value} (h : w.ownsRow B e sz v n xs) : w.drew.ownsRow B e sz v n xs :=
 own_grownS (w1 := w.drewN 1) h (gsb (S := fun _ => False) (bdr w 1)) (fun _ _ e => e)
def endF : Nat → Bool → List UInt8 → List UInt8
 | 0, _, _ => []
 | _ + 1, _, [] => []
 | f + 1, ins, c :: r =>
   if c == 92 && !r.isEmpty then unesc (r.headD 0) ins ++ endF f ins (r.drop 1)
   else if c == 34 then endF f (!ins) r
   else if c == 39 && !ins && decide (0 ≤ Lib.indexByte r 39) then r.takeWhile (fun x => x != 39) ++ endF f ins ((r.dropWhile (fun x => x != 39)).drop 1)
   else c :: endF f ins r
def endL (l : List UInt8) : List UInt8 := endF l.length false l
theorem endF_nil (f : Nat) (ins : Bool) : endF f ins [] = [] := by cases f <;> rfl
theorem endF_esc (f : Nat) (ins : Bool) (d : UInt8) (r : List UInt8) : endF (f + 1) ins (92 :: d :: r) = unesc d ins ++ endF f ins r := rfl
theorem endF_one (f : Nat) (r : List UInt8) (h : 0 ≤ Lib.indexByte r 39) : endF (f + 1) false (39 :: r) = r.takeWhile (fun x => x != 39) ++ endF f false ((r.dropWhile (fun x => x != 39)).drop 1) := by
 simp [endF, h]
theorem endF_else (f : Nat) (ins : Bool) (c : UInt8) (r : List UInt8) (h1 : c = 92 → r = []) (h2 : c ≠ 34) (h3 : c = 39 → ins = true ∨ ¬ 0 ≤ Lib.indexByte r 39) : endF (f + 1) ins (c :: r) = c :: endF f ins r := by
 have e1 : (c == 92 && !r.isEmpty) = false := by
  by_cases h : c = 92
  ·rw [h1 h]; simp
  ·simp [h]
 have e2 : (c == 34) = false := beq_false_of_ne h2
 have e3 : (c == 39 && !ins && decide (0 ≤ Lib.indexByte r 39)) = false := by
  by_cases h : c = 39
  ·rcases h3 h with h' | h'
   ·simp [h']
   ·simp [h']
  ·simp [h]
 rw [endF, e1, e2, e3]
 rfl
theorem unesc_len (d : UInt8) (ins : Bool) : (unesc d ins).length ≤ 2 := by
 unfold unesc
 split
 ·simp
 ·split <;> simp
def strLen : Value → Nat
 | .string s => s.size
 | _ => 0
theorem front_list {x : ByteArray} (h : 0 < x.size) : x.data.toList = x[0] :: (x.extract 1 x.size).data.toList := by
 have := drop_at (s := x) (p := 0) h
 rw [extract_end]
 simpa using this
theorem ext_size (x : ByteArray) : (x.extract 1 x.size).size = x.size - 1 := by rw [ByteArray.size_extract]; omega
theorem empty_bytes {x : ByteArray} (h : x.size = 0) : x = ⟨#[]⟩ := by
 have e : x.data.toList = [] := List.eq_nil_of_length_eq_zero (by rw [data_len]; exact h)
 rw [← BA_of x, e]
 rfl
theorem own_kept {w w1 : World} {base : Nat} {v : Value} {l : List UInt8} (h : OwnB w base v l) (hb : Below w.heap.size w w1) : OwnB w1 base v l := by
 obtain ⟨h0, h1 | ⟨g, cap, cur, h1, h2, h3, h4⟩⟩ := h
 ·exact ⟨h0, .inl h1⟩
 ·exact ⟨h0, .inr ⟨g, cap, cur, h1, h2, (hb.block g (Array.getElem?_eq_some_iff.1 h3).1).trans h3, h4⟩⟩
theorem is_empty {x : ByteArray} (h : x.size = 0) : x.toList.isEmpty = true := by
 rw [ByteArray.toList_eq, empty_bytes h]; rfl
theorem not_empty {x : ByteArray} (h : 0 < x.size) : x.toList.isEmpty = false := by
 rw [ByteArray.toList_eq, front_list h]; rfl
theorem byte_is {c : UInt8} {n : Nat} (h : c.toNat = n) : ((c.toNat : Int) == (n : Int)) = true := by rw [h]; simp
theorem byte_not {c : UInt8} {n : Nat} (h : ¬ c.toNat = n) : ((c.toNat : Int) == (n : Int)) = false := by
 rw [beq_eq_false_iff_ne]; omega
theorem byte_eq {c d : UInt8} (h : c.toNat = d.toNat) : c = d := UInt8.toNat_inj.1 h
theorem byte_ne {c d : UInt8} (h : ¬ c.toNat = d.toNat) : c ≠ d := fun e => h (by rw [e])
theorem own_belowB {w wr w1 : World} {base : Nat} {v : Value} {l : List UInt8} (hown : OwnB wr base v l) (hbel : Below base w wr) (hb : base ≤ wr.heap.size) (hg : wr.grownBy w1 v.ownBlock) : Below base w w1 :=
 hbel.grown hg hb (fun k hk => (World.ownsRow.lt hown k hk).1)
theorem own_below {w wr w1 : World} {base : Nat} {v : Value} {l : List UInt8} {o : Obj} (hown : OwnB wr base v l) (hbel : Below base w wr) (hb : base ≤ wr.heap.size) (hg : (wr.alloc o).grownBy w1 v.ownBlock) : Below base w w1 :=
 (hbel.alloc hb o).grown hg (by simp; omega) (fun k hk => (World.ownsRow.lt hown k hk).1)
theorem endLine_any (s : ByteArray) (m : Int) (w : World) (hs : s.size < 4294967281) (hm : w.cell? ⟨1, 0, none⟩ = some (.int .i64 m)) (h1 : 1 < w.heap.size) :
 Calls Tryz.prog 96 #[.string s] w fun e w' => e = .returned (.string (BA (endL s.data.toList))) ∧ Below w.heap.size w w' := by
 obtain ⟨i0, hi, hz0, hz1, hz2⟩ := info_of info_byte
 obtain ⟨R, hR⟩ : ∃ R, R = endL s.data.toList := ⟨_, rfl⟩
 have HR0 : Hid ([] ++ endF s.size false s.data.toList = R) := hide (by rw [hR]; unfold endL; rw [data_len]; rfl)
 rw [← hR]
 clear hR
 have HM := hide hm
 clear hm
 go_enter Tryz.func96, Tryz.ntmps96
 go_wp2
 go_loopw [0, 3, 4] (fun a v c wr => ∃ (x : ByteArray) (b : Bool) (l : List UInt8) (f : Nat), a = .string x ∧ c = .bool b ∧ x.size ≤ f ∧ l.length + x.size ≤ s.size ∧ l ++ endF f b x.data.toList = R ∧ OwnB wr w.heap.size v l ∧ Below w.heap.size w wr) (fun a _ _ _ => strLen a)
 case atStart => exact ⟨s, false, [], s.size, rfl, rfl, ler _, by simp, uh HR0, ownB_nil _ _, Below.refl _ _⟩
 case round =>
  obtain ⟨x, b, l, f, rfl, rfl, hxf, hlx, hr, hown, hbel⟩ := hrel
  have HR := hide hr
  clear hr
  by_cases hx0 : x.size = 0
  ·have hx := empty_bytes hx0
   subst hx
   have hl : l = R := by have := uh HR; rw [show (⟨#[]⟩ : ByteArray).data.toList = [] from rfl, endF_nil, List.append_nil] at this; exact this
   have HL := hide hl
   clear hl hxf hlx hx0
   have hcv := hown.text
   go_wp2
   go_ret
   rw [uh HL]
   exact ⟨rfl, hbel⟩
  have hxp : 0 < x.size := by omega
  have hxe := not_empty hxp
  obtain ⟨f, rfl⟩ : ∃ g, f = g + 1 := ⟨f - 1, by omega⟩
  have HXL := hide (front_list hxp)
  have hrs := ext_size x
  obtain ⟨r, hrr⟩ : ∃ r, r = x.extract 1 x.size := ⟨_, rfl⟩
  have HRR := hide hrr
  rw [← hrr] at HXL hrs
  have hra : r.size + 1 ≤ x.size := by omega
  have hrb : x.size ≤ r.size + 1 := by omega
  clear hrr hx0 hrs
  go_wp2_with fail
  go_quiet (fail)
  rw [← uh HRR]
  replace hown := own_kept hown (bdr wr nq)
  replace hbel := hbel.trans ((bdr wr nq).mono hbel.size)
  obtain ⟨wA, hwA⟩ : ∃ q, q = wr.drewN nq := ⟨_, rfl⟩
  rw [← hwA] at hown hbel
  rw [← hwA]
  clear hwA
  by_cases c92 : x[0].toNat = 92
  ·have k92 : ((x[0].toNat : Int) == 92) = true := byte_is c92
   by_cases hr0 : r.size = 0
   ·have hre := is_empty hr0
    have hrl : r.data.toList = [] := by rw [empty_bytes hr0]
    have c34 : ¬ x[0].toNat = 34 := by omega
    have c39 : ¬ x[0].toNat = 39 := by omega
    have k34 : ((x[0].toNat : Int) == 34) = false := byte_not c34
    have k39 : ((x[0].toNat : Int) == 39) = false := byte_not c39
    have HST := hide (endF_else f b x[0] r.data.toList (fun _ => hrl) (byte_ne c34) (fun h => absurd (congrArg UInt8.toNat h) c39))
    clear c34 c39 hrl hr0 c92
    go_wp2_with (first
     | (at_builtin; refine wpList_append_own _ rfl (.tmp 16) (.tmp 18) 116 rfl w.heap.size 5 i0 (.int .u8 0) 1 1 und_bytes hi hz0 hz1 hz2 rfl (by decide) _ _ _ rfl (hown.alloc _) ⟨wA.heap.size, 0, none⟩ 1 1 [.int .u8 (x[0].toNat : Int)] rfl rfl one_cell one_is ?c3 ?c4 ?c5 ?_)
     | go_in)
    case c3 => unfold maxLen; omega
    case c4 => omega
    case c5 => have := hbel.size; simp; omega
    intro v' w1 hown' hgrow _
    have hb' := own_below hown hbel hbel.size hgrow
    have ho' : OwnB w1 w.heap.size v' (l ++ [x[0]]) := own_push (zs := [.int .u8 (x[0].toNat : Int)]) (by simp) (by simp [Lib.byteCells]) hown'
    have HR' := hide (show (l ++ [x[0]]) ++ endF f b r.data.toList = R by
     rw [← uh HR, uh HXL, uh HST]; simp)
    clear hown' hgrow hown hbel
    go_wp2
    go_roundw
    case rel => exact ⟨r, b, l ++ [x[0]], f, rfl, rfl, by omega, by simp; omega, uh HR', ho', hb'⟩
    case measure => simp only [strLen]; omega
   ·have hrp : 0 < r.size := by omega
    have hre := not_empty hrp
    have HST := hide (show endF (f + 1) b (x[0] :: r.data.toList) = unesc r[0] b ++ endF f b (r.extract 1 r.size).data.toList by
     rw [show x[0] = 92 from byte_eq c92, front_list hrp]; exact endF_esc _ _ _ _)
    have hrs2 : (r.extract 1 r.size).size + 1 ≤ r.size := by rw [ext_size]; omega
    clear c92 hr0
    go_wp2_with fail
    refine (unescaped_any r[0] b _).mono ?_
    rintro en w1 ⟨v1, rfl, b1, o1⟩
    have hown1 := own_kept hown b1
    have hbel1 := hbel.trans (b1.mono hbel.size)
    have hul := unesc_len r[0] b
    obtain ⟨U, hU⟩ : ∃ U, U = unesc r[0] b := ⟨_, rfl⟩
    rw [← hU] at HST o1 hul
    clear hU hown hbel b1
    have HR' := hide (show (l ++ U) ++ endF f b (r.extract 1 r.size).data.toList = R by
     rw [← uh HR, uh HXL, uh HST]; simp)
    obtain ⟨_, ⟨rfl, h0⟩ | ⟨g, cap, cur, hv1, hg0⟩⟩ := id o1
    ·have hu0 : U = [] := List.eq_nil_of_length_eq_zero h0
     subst hu0
     rw [List.append_nil] at HR'
     clear h0 o1
     go_wp2_with (first
      | (at_builtin; refine wpList_append_own_none rfl (.tmp 27) (.tmp 31) 116 rfl w.heap.size 5 i0 1 und_bytes hi _ _ _ rfl hown1 rfl ?_)
      | go_in)
     go_wp2
     go_roundw
     case rel => exact ⟨r.extract 1 r.size, b, l, f, rfl, rfl, by omega, by omega, uh HR', hown1, hbel1⟩
     case measure => simp only [strLen]; omega
    ·have hcs := World.ownsRow.cells o1 (g := g) (by rw [hv1]; rfl)
     subst hv1
     clear hg0 o1
     go_wp2_with (first
      | (at_builtin; refine wpList_append_own _ rfl (.tmp 27) (.tmp 31) 116 rfl w.heap.size 5 i0 (.int .u8 0) 1 1 und_bytes hi hz0 hz1 hz2 rfl (by decide) _ _ _ rfl hown1 ⟨g, 0, none⟩ U.length cap (Lib.byteCells U) rfl (by simp [Lib.byteCells]) hcs (bytes_is U) ?c3 ?c4 ?c5 ?_)
      | go_in)
     case c3 => unfold maxLen; omega
     case c4 => omega
     case c5 => exact hbel1.size
     intro v' w2 hown' hgrow _
     have hb' := own_belowB hown1 hbel1 hbel1.size hgrow
     have ho' : OwnB w2 w.heap.size v' (l ++ U) := own_push rfl rfl hown'
     clear hown' hgrow hown1 hbel1 hcs
     go_wp2
     go_roundw
     case rel => exact ⟨r.extract 1 r.size, b, l ++ U, f, rfl, rfl, by omega, by rw [List.length_append]; omega, uh HR', ho', hb'⟩
     case measure => simp only [strLen]; omega
  have k92 : ((x[0].toNat : Int) == 92) = false := byte_not c92
  by_cases c34 : x[0].toNat = 34
  ·have k34 : ((x[0].toNat : Int) == 34) = true := byte_is c34
   have HR' := hide (show l ++ endF f (!b) r.data.toList = R by
    rw [← uh HR, uh HXL, show x[0] = 34 from byte_eq c34]; rfl)
   clear c34 c92
   go_wp2
   go_roundw
   case rel => exact ⟨r, !b, l, f, rfl, rfl, by omega, by omega, uh HR', hown, hbel⟩
   case measure => simp only [strLen]; omega
  have k34 : ((x[0].toNat : Int) == 34) = false := byte_not c34
  by_cases c39 : x[0].toNat = 39
  ·have k39 : ((x[0].toNat : Int) == 39) = true := byte_is c39
   cases b with
   | true =>
     have HST := hide (endF_else f true x[0] r.data.toList (fun h => absurd (congrArg UInt8.toNat h) c92) (byte_ne c34) (fun _ => .inl rfl))
     clear c92 c34 c39
     go_wp2_with (first
      | (at_builtin; refine wpList_append_own _ rfl (.tmp 16) (.tmp 18) 116 rfl w.heap.size 5 i0 (.int .u8 0) 1 1 und_bytes hi hz0 hz1 hz2 rfl (by decide) _ _ _ rfl (hown.alloc _) ⟨wA.heap.size, 0, none⟩ 1 1 [.int .u8 (x[0].toNat : Int)] rfl rfl one_cell one_is ?c3 ?c4 ?c5 ?_)
      | go_in)
     case c3 => unfold maxLen; omega
     case c4 => omega
     case c5 => have := hbel.size; simp; omega
     intro v' w1 hown' hgrow _
     have hb' := own_below hown hbel hbel.size hgrow
     have ho' : OwnB w1 w.heap.size v' (l ++ [x[0]]) := own_push (zs := [.int .u8 (x[0].toNat : Int)]) (by simp) (by simp [Lib.byteCells]) hown'
     have HR' := hide (show (l ++ [x[0]]) ++ endF f true r.data.toList = R by
      rw [← uh HR, uh HXL, uh HST]; simp)
     clear hown' hgrow hown hbel
     go_wp2
     go_roundw
     case rel => exact ⟨r, true, l ++ [x[0]], f, rfl, rfl, by omega, by simp; omega, uh HR', ho', hb'⟩
     case measure => simp only [strLen]; omega
   | false =>
     have hct := Tryz.strings_Contains_one r 39 wA
     obtain ⟨K, hK⟩ : ∃ K, K = Lib.indexByte r.data.toList 39 := ⟨_, rfl⟩
     rw [← hK] at hct
     have HCT := hide hct
     clear hct
     by_cases hin : 0 ≤ K
     ·have HST := hide (endF_one f r.data.toList (by rw [← hK]; exact hin))
      have hmw := (hbel.cell (p := ⟨1, 0, none⟩) h1).trans (uh HM)
      have hct := Tryz.strings_Cut r ⟨#[39]⟩ m wA (by omega) hmw
      rw [show (⟨#[39]⟩ : ByteArray).data.toList = [39] from rfl, cut_one] at hct
      have hsum := congrArg List.length (List.takeWhile_append_dropWhile (p := fun x => x != 39) (l := r.data.toList))
      rw [List.length_append, data_len] at hsum
      have hd1 : (((r.data.toList).dropWhile (fun x => x != 39)).drop 1).length ≤ ((r.data.toList).dropWhile (fun x => x != 39)).length := by rw [List.length_drop]; omega
      obtain ⟨A, hA⟩ : ∃ A, A = (r.data.toList).takeWhile (fun x => x != 39) := ⟨_, rfl⟩
      obtain ⟨B, hB⟩ : ∃ B, B = ((r.data.toList).dropWhile (fun x => x != 39)).drop 1 := ⟨_, rfl⟩
      rw [← hA, ← hB] at HST
      rw [← hA, ← hB] at hct
      rw [← hA] at hsum
      rw [← hB] at hd1
      have hab : A.length + B.length ≤ r.size := by omega
      have HCU := hide hct
      have HR' := hide (show (l ++ A) ++ endF f false B = R by
       rw [← uh HR, uh HXL, show x[0] = 39 from byte_eq c39, uh HST]; simp)
      clear hct hsum hd1 hA hB hK HST hmw c92 c34 c39
      go_wp2_with fail
      refine (uh HCT).mono ?_
      rintro en w1 ⟨rfl, hw1⟩
      rw [show w1 = wA from hw1]
      clear hw1
      go_wp2_with fail
      refine (uh HCU).mono ?_
      rintro en w2 ⟨rfl, k2, hw2⟩
      have b2 : Below wA.heap.size wA w2 := by rw [hw2]; exact bdr wA k2
      clear hw2
      have hown1 := own_kept hown b2
      have hbel1 := hbel.trans (b2.mono hbel.size)
      clear hown hbel b2 HCT HCU
      go_wp2_with (first
       | (at_builtin; refine Lib.wpList_append_own_string _ rfl (.tmp 57) (.tmp 58) 116 9 rfl w.heap.size 5 i0 und_bytes und_str hi hz0 hz1 hz2 _ _ _ rfl hown1 (BA A) rfl ?c3 ?c4 ?c5 ?_)
       | go_in)
      case c3 => unfold maxLen; rw [BA_size]; omega
      case c4 => rw [BA_size]; omega
      case c5 => exact hbel1.size
      intro v' w3 hown' hgrow _
      have hb' := own_belowB hown1 hbel1 hbel1.size hgrow
      have ho' : OwnB w3 w.heap.size v' (l ++ A) := own_push rfl rfl hown'
      clear hown' hgrow hown1 hbel1
      go_wp2
      go_roundw
      case rel => exact ⟨BA B, false, l ++ A, f, rfl, rfl, by rw [BA_size]; omega, by rw [List.length_append, BA_size]; omega, uh HR', ho', hb'⟩
      case measure =>
       simp only [strLen]
       rw [show (⟨B.toArray⟩ : ByteArray).size = B.length from rfl]
       omega
     ·have HST := hide (endF_else f false x[0] r.data.toList (fun h => absurd (congrArg UInt8.toNat h) c92) (byte_ne c34) (fun _ => .inr (by rw [← hK]; exact hin)))
      clear c92 c34 c39 hK
      go_wp2_with fail
      refine (uh HCT).mono ?_
      rintro en w1 ⟨rfl, hw1⟩
      rw [show w1 = wA from hw1]
      clear hw1
      go_wp2_with (first
       | (at_builtin; refine wpList_append_own _ rfl (.tmp 16) (.tmp 18) 116 rfl w.heap.size 5 i0 (.int .u8 0) 1 1 und_bytes hi hz0 hz1 hz2 rfl (by decide) _ _ _ rfl (hown.alloc _) ⟨wA.heap.size, 0, none⟩ 1 1 [.int .u8 (x[0].toNat : Int)] rfl rfl one_cell one_is ?c3 ?c4 ?c5 ?_)
       | go_in)
      case c3 => unfold maxLen; omega
      case c4 => omega
      case c5 => have := hbel.size; simp; omega
      intro v' w1 hown' hgrow _
      have hb' := own_below hown hbel hbel.size hgrow
      have ho' : OwnB w1 w.heap.size v' (l ++ [x[0]]) := own_push (zs := [.int .u8 (x[0].toNat : Int)]) (by simp) (by simp [Lib.byteCells]) hown'
      have HR' := hide (show (l ++ [x[0]]) ++ endF f false r.data.toList = R by
       rw [← uh HR, uh HXL, uh HST]; simp)
      clear hown' hgrow hown hbel
      go_wp2
      go_roundw
      case rel => exact ⟨r, false, l ++ [x[0]], f, rfl, rfl, by omega, by simp; omega, uh HR', ho', hb'⟩
      case measure => simp only [strLen]; omega
  have k39 : ((x[0].toNat : Int) == 39) = false := byte_not c39
  have HST := hide (endF_else f b x[0] r.data.toList (fun h => absurd (congrArg UInt8.toNat h) c92) (byte_ne c34) (fun h => absurd (congrArg UInt8.toNat h) c39))
  clear c92 c34 c39
  go_wp2_with (first
   | (at_builtin; refine wpList_append_own _ rfl (.tmp 16) (.tmp 18) 116 rfl w.heap.size 5 i0 (.int .u8 0) 1 1 und_bytes hi hz0 hz1 hz2 rfl (by decide) _ _ _ rfl (hown.alloc _) ⟨wA.heap.size, 0, none⟩ 1 1 [.int .u8 (x[0].toNat : Int)] rfl rfl one_cell one_is ?c3 ?c4 ?c5 ?_)
   | go_in)
  case c3 => unfold maxLen; omega
  case c4 => omega
  case c5 => have := hbel.size; simp; omega
  intro v' w1 hown' hgrow _
  have hb' := own_below hown hbel hbel.size hgrow
  have ho' : OwnB w1 w.heap.size v' (l ++ [x[0]]) := own_push (zs := [.int .u8 (x[0].toNat : Int)]) (by simp) (by simp [Lib.byteCells]) hown'
  have HR' := hide (show (l ++ [x[0]]) ++ endF f b r.data.toList = R by
   rw [← uh HR, uh HXL, uh HST]; simp)
  clear hown' hgrow hown hbel
  go_wp2
  go_roundw
  case rel => exact ⟨r, b, l ++ [x[0]], f, rfl, rfl, by omega, by simp; omega, uh HR', ho', hb'⟩
  case measure => simp only [strLen]; omega
theorem und_bptr : Tryz.prog.underlying 115 = some (.pointer 118) := by kernel_rfl
theorem und_unsafe : Tryz.prog.underlying 152 = some .unsafePointer := by kernel_rfl
theorem size_bld : (Tryz.prog.info? 118).map (·.size) = some 2 := by kernel_rfl
theorem lies_bld : liesAt Tryz.prog Tryz.prog.depth 118 (2 / Tryz.prog.cellsOf 118) 0 118 1 = true := by kernel_rfl
theorem check_used (b : Nat) (w : World) (h0 : w.cell? ⟨b, 0, none⟩ = some (.pointer (some ⟨b, 0, none⟩))) :
 Calls Tryz.prog 112 #[.pointer (some ⟨b, 0, none⟩)] w fun e w' => e = .returned (.tuple #[]) ∧ w' = w := by
 obtain ⟨j, hj, _⟩ := Option.map_eq_some_iff.1 size_bld
 have hq := Lib.run_neq_ptr_same w ⟨b, 0, none⟩ und_bptr hj
 go_enter Tryz.func112, Tryz.ntmps112
 go_wp2
 refine bodyPost_end (res0 rfl _ _) rfl ?_
 exact ⟨rfl, rfl⟩
theorem check_fresh (b : Nat) (w : World) (h0 : w.cell? ⟨b, 0, none⟩ = some (.pointer none)) (hsh : w.shape? b = some (118, 2)) (hfz : w.frozen? ⟨b, 0, none⟩ = false) :
 Calls Tryz.prog 112 #[.pointer (some ⟨b, 0, none⟩)] w fun e w' => e = .returned (.tuple #[]) ∧ w' = w.setCell ⟨b, 0, none⟩ (.pointer (some ⟨b, 0, none⟩)) := by
 obtain ⟨j, hj, hjs⟩ := Option.map_eq_some_iff.1 size_bld
 have ht := Lib.run_to_unsafe w ⟨b, 0, none⟩ und_bptr und_unsafe hj (by rw [hjs]; decide) hsh (Nat.zero_lt_succ 1)
 have hf := Lib.run_from_unsafe w ⟨b, 0, none⟩ und_unsafe und_bptr hj hsh lies_bld
 go_enter Tryz.func112, Tryz.ntmps112
 go_wp2
 rw [run_callFunc_extern Tryz.func133 (by kernel_rfl) (by kernel_rfl) (by kernel_rfl) (e := Extern.AbiNoEscape.same) (by kernel_rfl)]
 rw [Lib.run_noEscape]
 simp only [Result.andThen]
 rw [Oper.upon_value]
 go_wp2
 refine bodyPost_end (res0 rfl _ _) rfl ?_
 exact ⟨rfl, rfl⟩
theorem check_any (B b : Nat) (bs : List Value) (w : World) (h : Lib.IsBuilder 118 5 B b bs w) :
 Calls Tryz.prog 112 #[.pointer (some ⟨b, 0, none⟩)] w fun e w' => e = .returned (.tuple #[]) ∧ Lib.BuilderAt 118 5 B b (.pointer (some ⟨b, 0, none⟩)) bs w' ∧ Below B w w' := by
 rcases h with h | h
 ·refine (check_fresh b w h.cell0 h.shape h.frozen0).mono ?_
  rintro e w' ⟨rfl, rfl⟩
  exact ⟨rfl, h.used _, (Below.refl B w).setCell (p := ⟨b, 0, none⟩) h.1 _⟩
 ·refine (check_used b w h.cell0).mono ?_
  rintro e w' ⟨rfl, rfl⟩
  exact ⟨rfl, h, Below.refl B _⟩
theorem write_any (B b : Nat) (l : List UInt8) (s : ByteArray) (w : World) (h : Lib.IsBuilder 118 5 B b (Lib.byteCells l) w) (hlen : l.length + s.size ≤ 140737488355328) (hBw : B ≤ w.heap.size) :
 Calls Tryz.prog 89 #[.pointer (some ⟨b, 0, none⟩), .string s] w fun e w' => e = .returned (.tuple #[.int .i64 s.size, .nilIface]) ∧ Lib.IsBuilder 118 5 B b (Lib.byteCells (l ++ s.data.toList)) w' ∧ Below B w w' := by
 obtain ⟨i0, hi, hz0, hz1, hz2⟩ := info_of info_byte
 have hcl : (Lib.byteCells l).length = l.length := by simp [Lib.byteCells]
 have HC := hide (check_any B b _ w h)
 clear h
 go_enter Tryz.func89, Tryz.ntmps89
 go_wp2_with fail
 refine (uh HC).mono ?_
 rintro e w1 ⟨rfl, ⟨hB, v, hbk, hown, hne⟩, hb1⟩
 have c1 : w1.cell? ⟨b, 1, none⟩ = some v := by rw [Lib.cell_of_heap hbk]; rfl
 clear HC
 go_wp2_with (first
  | (at_builtin; refine Lib.wpList_append_own_string _ rfl (.tmp 12) (.tmp 13) 116 9 rfl B 5 i0 und_bytes und_str hi hz0 hz1 hz2 _ _ _ rfl hown s rfl ?c3 ?c4 ?c5 ?_)
  | go_in)
 case c3 => unfold maxLen; omega
 case c4 => omega
 case c5 => have := hb1.size; omega
 intro v' w2 hown' hgrow _
 have hlt : b < w1.heap.size := (Array.getElem?_eq_some_iff.1 hbk).1
 have hb2 : w2.heap[b]? = some (.cells #[.pointer (some ⟨b, 0, none⟩), v] 118 (0, 0)) := by
  rw [hgrow.block b hlt (fun e => hne e.symm)]
  exact hbk
 have d1 : w2.cell? ⟨b, 1, none⟩ = some v := by rw [Lib.cell_of_heap hb2]; rfl
 have f1 : w2.frozen? ⟨b, 1, none⟩ = false := Lib.frozen_of_heap hb2 1
 obtain ⟨ao, n', cap, rfl⟩ : ∃ ao n' cap, v' = .slice ao n' cap := by
  rcases hown'.2 with ⟨hv, _⟩ | ⟨g, cap, cur, hv, _⟩
  ·exact ⟨_, _, _, hv⟩
  ·exact ⟨_, _, _, hv⟩
 have hcs : Lib.byteCells l ++ Lib.strCells s = Lib.byteCells (l ++ s.data.toList) := by rw [byteCells_append]; rfl
 have HO := hide (show w2.ownsRow B 5 1 (.slice ao n' cap) (Lib.byteCells (l ++ s.data.toList)).length (Lib.byteCells (l ++ s.data.toList)) by
  rw [← hcs, List.length_append, Lib.strCells_length, hcl]; exact hown')
 have HG := hide hgrow
 have HW := hide hown
 have HH := hide hb2
 clear hcs hown' hgrow hown hb2 hcl hbk hne
 go_wp2
 go_ret2
 refine ⟨rfl, .inr ?_, ?_⟩
 ·exact Lib.BuilderAt.put (T := 118) (e := 5) hB (uh HH) (uh HO) (by decide)
 ·exact (hb1.grown (uh HG) (by have := hb1.size; omega) (fun k hk => ((uh HW).lt k hk).1)).setCell (p := ⟨b, 1, none⟩) hB _
end Go.Proofs.YtojjfdobilkknaaGreatDoor

/- What is passed over ahead of a token: the lexer's 'skip'; a text up to a byte.; A line of a text in place: the lexer's 'line'; 'skip' where something is wrong.; Rows of bytes that a call owns; 'unescaped'. -/
import Derived.Test.YtojjfdobilkknaaGreatDoorM02
import Derived.Deep.RegionHeld3
import Derived.Lib.BufferRead
import Derived.Laws.IdiomStrings
import Derived.Laws.AppendOwnNone
import Derived.Lib.AppendStr
set_option maxRecDepth 20000
set_option maxHeartbeats 8000000
namespace Go.Proofs.YtojjfdobilkknaaGreatDoor
open Go.RowKit
theorem index_one (c : UInt8) : ∀ l : List UInt8, Lib.index l [c] = Lib.indexByte l c
 | [] => rfl
 | b :: l => by
   rw [Lib.index, Lib.indexByte, index_one c l]
   have e : [c].isPrefixOf (b :: l) = (b == c) := by
    show (c == b && ([] : List UInt8).isPrefixOf l) = _
    by_cases h : b = c
    ·subst h; simp
    ·rw [show (b == c) = false from beq_false_of_ne h, show (c == b) = false from beq_false_of_ne (fun e => h e.symm)]; rfl
   rw [e]
theorem take_drop_while (p : UInt8 → Bool) (l : List UInt8) : l.takeWhile p = l.take (l.length - (l.dropWhile p).length) := by
 have h := List.takeWhile_append_dropWhile (p := p) (l := l)
 have hl := congrArg List.length h
 rw [List.length_append] at hl
 rw [show l.length - (l.dropWhile p).length = (l.takeWhile p).length by omega]
 have ht := List.take_left (l₁ := l.takeWhile p) (l₂ := l.dropWhile p)
 rw [h] at ht
 exact ht.symm
theorem cut_one (c : UInt8) (l : List UInt8) : Lib.cut l [c] = (l.takeWhile (fun x => x != c), (l.dropWhile (fun x => x != c)).drop 1, !(l.dropWhile (fun x => x != c)).isEmpty) := by
 unfold Lib.cut
 rw [index_one]
 rcases index_dw l c with ⟨h1, h2⟩ | ⟨k, h1, h2, h3⟩
 ·rw [h1, if_neg (by decide), h2]
  have h := List.takeWhile_append_dropWhile (p := fun x => x != c) (l := l)
  rw [h2, List.append_nil] at h
  rw [h]
  rfl
 ·rw [h1, if_pos (by omega), h3]
  have ht : l.takeWhile (fun x => x != c) = l.take k := by
   rw [take_drop_while, h3]
   congr 1
   simp
   omega
  rw [ht]
  rfl
def skL : Nat → List UInt8 → List UInt8
 | 0, l => l
 | _ + 1, [] => []
 | f + 1, c :: r => if blkB (c.toNat : Int) then skL f r else if c = 92 ∧ r.head? = some 10 then skL f (r.drop 1) else if c = 35 then skL f (r.dropWhile (fun x => x != 10)) else c :: r
theorem skL_nil (f : Nat) : skL (f + 1) [] = [] := by rw [skL]
theorem skL_cons (f : Nat) (c : UInt8) (r : List UInt8) : skL (f + 1) (c :: r) = if blkB (c.toNat : Int) then skL f r else if c = 92 ∧ r.head? = some 10 then skL f (r.drop 1) else if c = 35 then skL f (r.dropWhile (fun x => x != 10)) else c :: r := by rw [skL]
def SkI (w : World) (b : Nat) (tl : List Value) (s : ByteArray) (d : Nat) (T : List UInt8) (q : Nat) (wr : World) : Prop :=
 Rdr wr b 71 tl s q d 0 0 ∧ w.grownBy wr (some b) ∧ ∃ F, s.size - q + 1 ≤ F ∧ skL F (s.data.toList.drop q) = T
theorem skip_any (w : World) (b : Nat) (tl : List Value) (s : ByteArray) (p d : Nat) (F : Nat) (m : Int) (h : Rdr w b 71 tl s p d 0 0) (hF : s.size - p + 1 ≤ F) (hm : w.cell? ⟨1, 0, none⟩ = some (.int .i64 m)) (hb1 : 1 < b) :
 Calls Tryz.prog 27 #[.pointer (some ⟨b, 0, none⟩)] w fun e w' => e = .returned (.tuple #[]) ∧ w.grownBy w' (some b) ∧ ∃ q, s.data.toList.drop q = skL F (s.data.toList.drop p) ∧ Rdr w' b 71 tl s q d 0 0 := by
 have hlen := h.len
 have HI : Hid (SkI w b tl s d (skL F (s.data.toList.drop p)) p w) := hide ⟨h, World.grownBy.refl w _, F, hF, rfl⟩
 obtain ⟨T, hT⟩ : ∃ x, x = skL F (s.data.toList.drop p) := ⟨_, rfl⟩
 rw [← hT] at HI ⊢
 have HM1 : Hid (∀ W, w.grownBy W (some b) → W.cell? ⟨1, 0, none⟩ = some (.int .i64 m)) := hide (fun W hg => hg.cell hm (by simp; omega))
 clear h hF hT hm
 go_enter Tryz.func27, Tryz.ntmps27
 go_wp2_with fail
 go_loopw [8] (fun _ wr => ∃ q : Nat, Hid (SkI w b tl s d T q wr)) (fun _ wr => s.size - atOf b wr)
 case atStart => exact ⟨p, HI⟩
 case round =>
  clear HI
  obtain ⟨q, HI⟩ := hrel
  obtain ⟨hR, hG, F1, hF1, hT1⟩ := uh HI
  clear HI
  have HAT := hide hR.at
  have hle := hR.le
  have hmo := more_any hR
  have HR := hide hR
  have HG := hide hG
  clear hR hG
  by_cases hq : q < s.size
  ·have hmb : moreB s q 0 = true := by unfold moreB; rw [decide_eq_true hq]; rfl
   rw [hmb] at hmo
   have HMO := hide hmo
   obtain ⟨F1, rfl⟩ : ∃ G, F1 = G + 1 := ⟨F1 - 1, by omega⟩
   rw [drop_at hq, skL_cons] at hT1
   have hq' : (q : Int) < (s.size : Int) := by omega
   obtain ⟨q1, hq1⟩ : ∃ x, x = q + 1 := ⟨_, rfl⟩
   have hw1 : IntKind.i64.wrap ((q : Int) + 1) = (q1 : Int) := by rw [IntKind.wrap_i64]; omega
   rw [← hq1] at hT1
   have hq1s : q1 ≤ s.size ∧ q < q1 := by omega
   have hdq := drop_at hq
   rw [← hq1] at hdq
   have HDQ := hide hdq
   clear hmo hmb hq1 hdq
   rcases Bool.eq_false_or_eq_true (blkB (s[q].toNat : Int)) with hbl | hbl
   ·have HBL : Hid (∀ W, Calls Tryz.prog 47 #[.int .u8 (s[q].toNat : Int)] W fun e w' => e = .returned (.bool true) ∧ Below W.heap.size W w') := hide (fun W => by
     have := blank_any (s[q].toNat : Int) W (byte_range _).1 (byte_range _).2
     rw [hbl] at this
     exact this)
    rw [hbl, if_pos rfl] at hT1
    have HT1 := hide hT1
    clear hT1 hbl
    go_wp2_with fail
    refine (uh HMO).mono ?_
    rintro en w1 ⟨rfl, k1, hw1e⟩
    subst hw1e
    have c1 := (uh HR).c1
    have c2 := (uh HR).c2
    go_wp2_with fail
    go_region_held3 (fun w' => w'.cell? ⟨b, 1, none⟩ = some (.string s) ∧ w'.cell? ⟨b, 2, none⟩ = some (.int .i64 (q : Int))) (go_keep) (first
     | (go_at_call 47
        refine (uh HBL _).mono ?_
        rintro en w3 ⟨rfl, b3⟩
        have h3 := (((uh HR).drewN k1).kept (w' := w3) ((gdn _ 1).trans (gob b3)))
        have y1 := h3.c1
        have y2 := h3.c2
        have z2 := h3.blk.frozen 2
        have H3 := hide h3
        have G3 := hide ((uh HG).trans (grown_but ((gdn wr k1).trans ((gdn _ 1).trans (gob b3))) (some b)))
        clear h3 b3))
    clear c1 c2
    go_wp2
    go_roundw
    case rel => exact ⟨q1, hide ⟨(uh H3).to q1 hq1s.1, (uh G3).trans (gsc _ ⟨b, 2, none⟩ _), F1, by omega, uh HT1⟩⟩
    case measure =>
     rw [((uh H3).to q1 hq1s.1).at, uh HAT]
     omega
   ·have HBL : Hid (∀ W, Calls Tryz.prog 47 #[.int .u8 (s[q].toNat : Int)] W fun e w' => e = .returned (.bool false) ∧ Below W.heap.size W w') := hide (fun W => by
     have := blank_any (s[q].toNat : Int) W (byte_range _).1 (byte_range _).2
     rw [hbl] at this
     exact this)
    rw [hbl, if_neg (by decide)] at hT1
    clear hbl
    by_cases hnl : s[q] = 92 ∧ (s.data.toList.drop q1).head? = some 10
    ·rw [if_pos hnl] at hT1
     have hv2 : ((s[q] == 92) && ((s.data.toList.drop q1).head? == some 10)) = true := by rw [hnl.1, hnl.2]; rfl
     have hh := head_cons hnl.2
     obtain ⟨hq1l, hd2⟩ := drop_step hh
     obtain ⟨q2, hq2⟩ : ∃ x, x = q + 2 := ⟨_, rfl⟩
     have hw2 : IntKind.i64.wrap ((q : Int) + 2) = (q2 : Int) := by rw [IntKind.wrap_i64]; omega
     have hq12 : q2 = q1 + 1 ∧ q2 ≤ s.size := by
      have hw1' := hw1
      rw [IntKind.wrap_i64] at hw1'
      omega
     have HT1 : Hid (skL F1 (s.data.toList.drop q2) = T) := hide (by rw [hq12.1, hd2]; exact hT1)
     have hq2s : q2 ≤ s.size ∧ q < q2 := by omega
     have HV2 := hide hv2
     clear hT1 hnl hh hd2 hq2 hq12 hq1l hv2
     go_wp2_with fail
     refine (uh HMO).mono ?_
     rintro en w1 ⟨rfl, k1, hw1e⟩
     subst hw1e
     have c1 := (uh HR).c1
     have c2 := (uh HR).c2
     go_wp2_with fail
     go_region_held3 (fun w' => w'.cell? ⟨b, 1, none⟩ = some (.string s) ∧ w'.cell? ⟨b, 2, none⟩ = some (.int .i64 (q : Int))) (go_keep) (first
      | (go_at_call 47
         refine (uh HBL _).mono ?_
         rintro en w3 ⟨rfl, b3⟩
         have h3 := (((uh HR).drewN k1).kept (w' := w3) ((gdn _ 1).trans (gob b3)))
         have y1 := h3.c1
         have y2 := h3.c2
         have z2 := h3.blk.frozen 2
         have H3 := hide h3
         have G3 := hide ((uh HG).trans (grown_but ((gdn wr k1).trans ((gdn _ 1).trans (gob b3))) (some b)))
         clear h3 b3))
     clear c1 c2
     go_wp2_with fail
     refine (sees_any ⟨#[92, 10]⟩ (uh H3)).mono ?_
     rintro en w5 ⟨rfl, k5, hw5⟩
     subst hw5
     rw [uh HDQ, show (⟨#[92, 10]⟩ : ByteArray).data.toList = [92, 10] from rfl, hasP_two, uh HV2]
     go_wp2
     go_roundw
     case rel => exact ⟨q2, hide ⟨((uh H3).drewN k5).to q2 hq2s.1, (uh G3).trans ((grown_but (gdn w3 k5) _).trans (gsc _ ⟨b, 2, none⟩ _)), F1, by omega, uh HT1⟩⟩
     case measure =>
      rw [(((uh H3).drewN k5).to q2 hq2s.1).at, uh HAT]
      omega
    ·rw [if_neg hnl] at hT1
     have hv2 : ((s[q] == 92) && ((s.data.toList.drop q1).head? == some 10)) = false := by
      rw [Bool.and_eq_false_iff]
      by_cases e1 : s[q] = 92
      ·right
       rw [beq_eq_false_iff_ne]
       exact fun e2 => hnl ⟨e1, e2⟩
      ·left
       rw [beq_eq_false_iff_ne]
       exact e1
     have HV2 := hide hv2
     clear hnl hv2
     by_cases h35 : s[q] = 35
     ·rw [if_pos h35] at hT1
      have hv3 : (s[q] == 35) = true := by rw [h35]; rfl
      have HV3 := hide hv3
      have hcut : Lib.cut (s.data.toList.drop q) [10] = ((s.data.toList.drop q).takeWhile (fun x => x != 10), ((s.data.toList.drop q).dropWhile (fun x => x != 10)).drop 1, !((s.data.toList.drop q).dropWhile (fun x => x != 10)).isEmpty) := cut_one 10 _
      have hdw : (s.data.toList.drop q).dropWhile (fun x => x != 10) = (s.data.toList.drop q1).dropWhile (fun x => x != 10) := by
       rw [uh HDQ, List.dropWhile_cons, if_pos (by rw [h35]; decide)]
      obtain ⟨A, hA⟩ : ∃ x, x = (s.data.toList.drop q).takeWhile (fun x => x != 10) := ⟨_, rfl⟩
      obtain ⟨B, hB⟩ : ∃ x, x = ((s.data.toList.drop q).dropWhile (fun x => x != 10)).drop 1 := ⟨_, rfl⟩
      obtain ⟨C, hC⟩ : ∃ x, x = !((s.data.toList.drop q).dropWhile (fun x => x != 10)).isEmpty := ⟨_, rfl⟩
      rw [← hA, ← hB, ← hC] at hcut
      have hal : A.length + ((s.data.toList.drop q).dropWhile (fun x => x != 10)).length = s.size - q := by
       have h := congrArg List.length (List.takeWhile_append_dropWhile (p := fun x => x != 10) (l := s.data.toList.drop q))
       rw [List.length_append, ← hA, List.length_drop, data_len] at h
       exact h
      have hdA : s.data.toList.drop (q + A.length) = (s.data.toList.drop q1).dropWhile (fun x => x != 10) := by
       rw [← hdw, ← List.drop_drop]
       have h := List.takeWhile_append_dropWhile (p := fun x => x != 10) (l := s.data.toList.drop q)
       rw [← hA] at h
       conv => lhs; rw [← h]
       exact List.drop_left
      have hA0 : 0 < A.length := by
       rw [hA, uh HDQ, List.takeWhile_cons, if_pos (by rw [h35]; decide)]
       simp
      obtain ⟨q2, hq2⟩ : ∃ x, x = q + A.length := ⟨_, rfl⟩
      rw [← hq2] at hdA
      have hw2 : IntKind.i64.wrap ((q : Int) + (A.length : Int)) = (q2 : Int) := by rw [IntKind.wrap_i64]; omega
      have hq2s : q2 ≤ s.size ∧ q < q2 := by omega
      have HT1 : Hid (skL F1 (s.data.toList.drop q2) = T) := hide (by rw [hdA]; exact hT1)
      have HCUT : Hid (∀ W, W.cell? ⟨1, 0, none⟩ = some (.int .i64 m) → Calls Tryz.prog 49 #[.string (s.extract q s.size), .string ⟨#[10]⟩] W fun e w' => e = .returned (.tuple #[.string (BA A), .string (BA B), .bool C]) ∧ ∃ n, w' = W.drewN n) := hide (fun W hW => by
       have := Tryz.strings_Cut (s.extract q s.size) ⟨#[10]⟩ m W (by rw [ByteArray.size_extract]; omega) hW
       rw [extract_end, BA_list, show (⟨#[10]⟩ : ByteArray).data.toList = [10] from rfl, hcut] at this
       rw [extract_end]
       exact this)
      clear hT1 h35 hv3 hcut hdw hA hB hC hal hdA hA0 hq2
      go_wp2_with fail
      refine (uh HMO).mono ?_
      rintro en w1 ⟨rfl, k1, hw1e⟩
      subst hw1e
      have c1 := (uh HR).c1
      have c2 := (uh HR).c2
      go_wp2_with fail
      go_region_held3 (fun w' => w'.cell? ⟨b, 1, none⟩ = some (.string s) ∧ w'.cell? ⟨b, 2, none⟩ = some (.int .i64 (q : Int))) (go_keep) (first
       | (go_at_call 47
          refine (uh HBL _).mono ?_
          rintro en w3 ⟨rfl, b3⟩
          have h3 := (((uh HR).drewN k1).kept (w' := w3) ((gdn _ 1).trans (gob b3)))
          have y1 := h3.c1
          have y2 := h3.c2
          have z2 := h3.blk.frozen 2
          have H3 := hide h3
          have G3 := hide ((uh HG).trans (grown_but ((gdn wr k1).trans ((gdn _ 1).trans (gob b3))) (some b)))
          clear h3 b3))
      clear c1 c2
      have HC1 := hide (uh HM1 w3 (uh G3))
      go_wp2_with fail
      refine (sees_any ⟨#[92, 10]⟩ (uh H3)).mono ?_
      rintro en w5 ⟨rfl, k5, hw5⟩
      subst hw5
      rw [uh HDQ, show (⟨#[92, 10]⟩ : ByteArray).data.toList = [92, 10] from rfl, hasP_two, uh HV2]
      go_wp2_with fail
      refine (sees_any ⟨#[35]⟩ ((uh H3).drewN k5)).mono ?_
      rintro en w6 ⟨rfl, k6, hw6⟩
      rw [World.drewN_drewN] at hw6
      generalize k5 + k6 = k7 at hw6
      subst hw6
      rw [uh HDQ, show (⟨#[35]⟩ : ByteArray).data.toList = [35] from rfl, hasP_one, uh HV3]
      obtain ⟨w8, hw8⟩ : ∃ x, x = w3.drewN k7 := ⟨_, rfl⟩
      have h8 : Rdr w8 b 71 tl s q d 0 0 := by rw [hw8]; exact (uh H3).drewN k7
      have g8 : w3.grownBy w8 none := by rw [hw8]; exact gdn w3 k7
      have hc8 : w8.cell? ⟨1, 0, none⟩ = some (.int .i64 m) := by rw [hw8]; exact uh HC1
      rw [← hw8]
      clear hw8 y1 y2 z2
      have y1 := h8.c1
      have y2 := h8.c2
      have z2 := h8.blk.frozen 2
      have H8 := hide h8
      have G8 := hide g8
      have HC8 := hide hc8
      clear h8 g8 hc8
      go_wp2_with fail
      go_quiet ((go_at_call 49; exact Calls.quiet_of (uh HCUT _ (uh HC8))))
      go_wp2
      go_roundw
      case rel => exact ⟨q2, hide ⟨((uh H8).drewN _).to q2 hq2s.1, (uh G3).trans ((grown_but ((uh G8).trans (gdn w8 _)) _).trans (gsc _ ⟨b, 2, none⟩ _)), F1, by omega, uh HT1⟩⟩
      case measure =>
       rw [(((uh H8).drewN _).to q2 hq2s.1).at, uh HAT]
       omega
     ·rw [if_neg h35, ← uh HDQ] at hT1
      have hv3 : (s[q] == 35) = false := by rw [beq_eq_false_iff_ne]; exact h35
      have HV3 := hide hv3
      have HT1 := hide hT1
      clear hT1 h35 hv3
      go_wp2_with fail
      refine (uh HMO).mono ?_
      rintro en w1 ⟨rfl, k1, hw1e⟩
      subst hw1e
      have c1 := (uh HR).c1
      have c2 := (uh HR).c2
      go_wp2_with fail
      go_region_held3 (fun w' => w'.cell? ⟨b, 1, none⟩ = some (.string s) ∧ w'.cell? ⟨b, 2, none⟩ = some (.int .i64 (q : Int))) (go_keep) (first
       | (go_at_call 47
          refine (uh HBL _).mono ?_
          rintro en w3 ⟨rfl, b3⟩
          have h3 := (((uh HR).drewN k1).kept (w' := w3) ((gdn _ 1).trans (gob b3)))
          have y1 := h3.c1
          have y2 := h3.c2
          have z2 := h3.blk.frozen 2
          have H3 := hide h3
          have G3 := hide ((uh HG).trans (grown_but ((gdn wr k1).trans ((gdn _ 1).trans (gob b3))) (some b)))
          clear h3 b3))
      clear c1 c2
      go_wp2_with fail
      refine (sees_any ⟨#[92, 10]⟩ (uh H3)).mono ?_
      rintro en w5 ⟨rfl, k5, hw5⟩
      subst hw5
      rw [uh HDQ, show (⟨#[92, 10]⟩ : ByteArray).data.toList = [92, 10] from rfl, hasP_two, uh HV2]
      go_wp2_with fail
      refine (sees_any ⟨#[35]⟩ ((uh H3).drewN k5)).mono ?_
      rintro en w6 ⟨rfl, k6, hw6⟩
      rw [World.drewN_drewN] at hw6
      generalize k5 + k6 = k7 at hw6
      subst hw6
      rw [uh HDQ, show (⟨#[35]⟩ : ByteArray).data.toList = [35] from rfl, hasP_one, uh HV3]
      go_wp2
      refine bodyPost_ret (res0 rfl _ _) rfl ?_
      exact ⟨rfl, (uh G3).trans (grown_but (gdn w3 _) _), q, uh HT1, (uh H3).drewN _⟩
  ·have hmb : moreB s q 0 = false := by unfold moreB; rw [decide_eq_false hq]; rfl
   rw [hmb] at hmo
   have HMO := hide hmo
   obtain ⟨F1, rfl⟩ : ∃ G, F1 = G + 1 := ⟨F1 - 1, by omega⟩
   rw [drop_nil (by omega), skL_nil] at hT1
   have HT1 : Hid (s.data.toList.drop q = T) := hide (by rw [← hT1]; exact drop_nil (by omega))
   clear hmo hmb hT1
   go_wp2_with fail
   refine (uh HMO).mono ?_
   rintro en w1 ⟨rfl, k1, hw1e⟩
   subst hw1e
   go_wp2
   refine bodyPost_end (res0 rfl _ _) rfl ?_
   exact ⟨rfl, (uh HG).trans (grown_but (gdn wr _) _), q, uh HT1, (uh HR).drewN _⟩
theorem skip_bad (w : World) (b : Nat) (tl : List Value) (s : ByteArray) (p d : Nat) (f bl : Int) (h : Rdr w b 71 tl s p d f bl) (hf : f ≠ 0) :
 Calls Tryz.prog 27 #[.pointer (some ⟨b, 0, none⟩)] w fun e w' => e = .returned (.tuple #[]) ∧ ∃ k, w' = w.drewN k := by
 have hmo := more_any h
 have hmb : moreB s p f = false := by unfold moreB; rw [show (f == 0) = false by simpa using hf]; rfl
 rw [hmb] at hmo
 have HMO := hide hmo
 clear hmo hmb h hf
 go_enter Tryz.func27, Tryz.ntmps27
 go_wp2_with fail
 go_loopw [8] (fun _ wr => wr = w) (fun _ _ => 0)
 case atStart => rfl
 case round =>
  subst hrel
  go_wp2_with fail
  refine (uh HMO).mono ?_
  rintro en w1 ⟨rfl, k1, hw1⟩
  subst hw1
  go_wp2
  refine bodyPost_end (res0 rfl _ _) rfl ?_
  exact ⟨rfl, k1, rfl⟩
theorem line_any (w : World) (b : Nat) (tl : List Value) (s : ByteArray) (p d : Nat) (m : Int) (h : Rdr w b 71 tl s p d 0 0) (hm : w.cell? ⟨1, 0, none⟩ = some (.int .i64 m)) :
 Calls Tryz.prog 86 #[.pointer (some ⟨b, 0, none⟩)] w fun e w' => e = .returned (.string (BA ((s.data.toList.drop p).takeWhile (fun x => x != 10)))) ∧ w.grownBy w' (some b) ∧ ∃ q, s.data.toList.drop q = ((s.data.toList.drop p).dropWhile (fun x => x != 10)).drop 1 ∧ Rdr w' b 71 tl s q d 0 0 := by
 have hlen := h.len
 have hle := h.le
 have hcut : Lib.cut (s.data.toList.drop p) [10] = ((s.data.toList.drop p).takeWhile (fun x => x != 10), ((s.data.toList.drop p).dropWhile (fun x => x != 10)).drop 1, !((s.data.toList.drop p).dropWhile (fun x => x != 10)).isEmpty) := cut_one 10 _
 have happ := List.takeWhile_append_dropWhile (p := fun x => x != 10) (l := s.data.toList.drop p)
 obtain ⟨D, hD⟩ : ∃ x, x = (s.data.toList.drop p).dropWhile (fun x => x != 10) := ⟨_, rfl⟩
 obtain ⟨A, hA⟩ : ∃ x, x = (s.data.toList.drop p).takeWhile (fun x => x != 10) := ⟨_, rfl⟩
 obtain ⟨C, hC⟩ : ∃ x, x = !D.isEmpty := ⟨_, rfl⟩
 rw [← hA, ← hD, ← hC] at hcut
 rw [← hA, ← hD] at happ ⊢
 obtain ⟨B, hB⟩ : ∃ x, x = D.drop 1 := ⟨_, rfl⟩
 rw [← hB] at hcut ⊢
 have hal : A.length + D.length = s.size - p := by
  have h := congrArg List.length happ
  rw [List.length_append, List.length_drop, data_len] at h
  exact h
 obtain ⟨q1, hq1⟩ : ∃ x, x = p + A.length := ⟨_, rfl⟩
 obtain ⟨q2, hq2⟩ : ∃ x, x = q1 + 1 := ⟨_, rfl⟩
 obtain ⟨q, hq⟩ : ∃ x, x = min q2 s.size := ⟨_, rfl⟩
 have hw1 : IntKind.i64.wrap ((p : Int) + (A.length : Int)) = (q1 : Int) := by rw [IntKind.wrap_i64]; omega
 have hw2 : IntKind.i64.wrap ((q1 : Int) + 1) = (q2 : Int) := by rw [IntKind.wrap_i64]; omega
 have hmn : min (q2 : Int) (s.size : Int) = (q : Int) := by omega
 have hqs : q ≤ s.size := by omega
 have hd1 : s.data.toList.drop q1 = D := by
  rw [hq1, ← List.drop_drop]
  conv => lhs; rw [← happ]
  exact List.drop_left
 have HDQ : Hid (s.data.toList.drop q = B) := hide (by
  rw [hB, ← hd1, List.drop_drop]
  rcases Nat.le_total q2 s.size with h1 | h1
  ·rw [show q = q1 + 1 by omega]
  ·rw [drop_nil (show s.size ≤ q by omega), drop_nil (by omega)])
 have HCUT : Hid (∀ W, W.cell? ⟨1, 0, none⟩ = some (.int .i64 m) → Calls Tryz.prog 49 #[.string (s.extract p s.size), .string ⟨#[10]⟩] W fun e w' => e = .returned (.tuple #[.string (BA A), .string (BA B), .bool C]) ∧ ∃ n, w' = W.drewN n) := hide (fun W hW => by
  have := Tryz.strings_Cut (s.extract p s.size) ⟨#[10]⟩ m W (by rw [ByteArray.size_extract]; omega) hW
  rw [extract_end, BA_list, show (⟨#[10]⟩ : ByteArray).data.toList = [10] from rfl, hcut] at this
  rw [extract_end]
  exact this)
 have c1 := h.c1
 have c2 := h.c2
 have z2 := h.blk.frozen 2
 have H := hide h
 have HM := hide hm
 clear h hm hcut happ hD hA hC hB hal hq1 hq2 hq hd1
 go_enter Tryz.func86, Tryz.ntmps86
 go_wp2_with fail
 go_quiet ((go_at_call 49; exact Calls.quiet_of (uh HCUT _ (uh HM))))
 go_wp2_with fail
 go_region
 all_goals
  go_wp2
  go_ret
  exact ⟨rfl, (grown_but (gdn w _) _).trans ((grown_but ⟨rfl, rfl, rfl, ler _, fun _ _ _ => rfl⟩ _).trans (gsc _ ⟨b, 2, none⟩ _)), q, uh HDQ, (((uh H).drewN _).kept ⟨rfl, rfl, rfl, ler _, fun _ _ _ => rfl⟩).to q hqs⟩
theorem und_bytes : Tryz.prog.underlying 116 = some (.slice 5) := by kernel_rfl
theorem und_byte : Tryz.prog.underlying 5 = some (.int .u8) := by kernel_rfl
theorem und_str : Tryz.prog.underlying 9 = some .string := by kernel_rfl
theorem info_byte : (Tryz.prog.info? 5).map (fun i => (i.zero, i.size, i.bytes)) = some (some (.int .u8 0), 1, 1) := by kernel_rfl
theorem info_of {t : TypeId} {z : Option Value} {a c : Nat} (h : (Tryz.prog.info? t).map (fun i => (i.zero, i.size, i.bytes)) = some (z, a, c)) : ∃ i, Tryz.prog.info? t = some i ∧ i.zero = z ∧ i.size = a ∧ i.bytes = c := by
 cases hi : Tryz.prog.info? t with
 | none => rw [hi] at h; cases h
 | some i =>
   rw [hi] at h
   simp at h
   exact ⟨i, rfl, h.1, h.2.1, h.2.2⟩
def OwnB (w : World) (base : Nat) (v : Value) (l : List UInt8) : Prop := w.ownsRow base 5 1 v l.length (Lib.byteCells l)
theorem ownB_nil (w : World) (base : Nat) : OwnB w base (.slice none 0 0) [] := World.ownsRow_nil _ _ _ _
theorem OwnB.alloc {w : World} {base : Nat} {v : Value} {l : List UInt8} (h : OwnB w base v l) (o : Obj) : OwnB (w.alloc o) base v l := World.ownsRow.alloc h o
theorem byteCells_append (a b : List UInt8) : Lib.byteCells (a ++ b) = Lib.byteCells a ++ Lib.byteCells b := by simp [Lib.byteCells]
theorem add_at (g j : Nat) : ((⟨g, 0, none⟩ : Addr).add j) = ⟨g, j, none⟩ := by
 by_cases h : j = 0
 ·subst h; simp [Addr.add]
 ·simp [Addr.add, h]
theorem OwnB.shape {w : World} {base : Nat} {v : Value} {l : List UInt8} (h : OwnB w base v l) (hl : l ≠ []) :
 ∃ g cap, v = .slice (some ⟨g, 0, none⟩) l.length cap ∧ base ≤ g ∧ g < w.heap.size ∧ ∀ j (hj : j < l.length), w.cell? ⟨g, j, none⟩ = some (.int .u8 (l[j].toNat : Int)) := by
 obtain ⟨_, ⟨_, h0⟩ | ⟨g, cap, cur, rfl, hb, hg, _, _, _, htk⟩⟩ := h
 ·exact absurd (List.eq_nil_of_length_eq_zero h0) hl
 ·refine ⟨g, cap, rfl, hb, ?_, fun j hj => ?_⟩
  ·rcases Nat.lt_or_ge g w.heap.size with h' | h'
   ·exact h'
   ·rw [Array.getElem?_eq_none h'] at hg; cases hg
  ·have := Lib.bytes_of_row hg (by simpa using htk) j hj
   rwa [add_at] at this
theorem OwnB.text {w : World} {base : Nat} {v : Value} {l : List UInt8} (h : OwnB w base v l) : (convert 116 9 v).run Tryz.prog w = .ok (.string (BA l)) w := by
 by_cases hl : l = []
 ·subst hl
  obtain ⟨_, ⟨rfl, _⟩ | ⟨g, cap, cur, rfl, _⟩⟩ := h
  ·exact Lib.run_convert_nil_bytes w 116 9 5 0 und_bytes und_byte und_str
  ·exact run_convert_bytes_back w 116 9 5 ⟨g, 0, none⟩ cap [] und_bytes und_byte und_str (fun j hj => absurd hj (by simp))
 ·obtain ⟨g, cap, rfl, _, _, hc⟩ := h.shape hl
  exact run_convert_bytes_back w 116 9 5 ⟨g, 0, none⟩ cap l und_bytes und_byte und_str (fun j hj => by rw [add_at]; exact hc j hj)
theorem own_push {w1 : World} {base n : Nat} {v' : Value} {l c : List UInt8} {zs : List Value} (hn : n = l.length + c.length) (hz : zs = Lib.byteCells c) (h : w1.ownsRow base 5 1 v' n (Lib.byteCells l ++ zs)) : OwnB w1 base v' (l ++ c) := by
 unfold OwnB
 rw [byteCells_append, ← hz, List.length_append, ← hn]
 exact h
theorem one_cell {w : World} {x : Value} : ∀ j u, [x][j]? = some u → (w.alloc (.cells #[x] 5)).cell? ((⟨w.heap.size, 0, none⟩ : Addr).add j) = some u := by
 intro j u hj
 match j, hj with
 | 0, hj => simp at hj; subst hj; rw [add_at]; go_simp
theorem one_is {x : Int} : ∀ u ∈ [Value.int .u8 x], u.oneCell' = true := by
 intro u hu; simp at hu; subst hu; rfl
theorem bytes_is (l : List UInt8) : ∀ u ∈ Lib.byteCells l, u.oneCell' = true := by
 intro u hu
 simp only [Lib.byteCells, List.mem_map] at hu
 obtain ⟨b, _, rfl⟩ := hu
 rfl
def unesc (c : UInt8) (ins : Bool) : List UInt8 := if c == 10 then [] else if ins && !(c == 36 || c == 34 || c == 92 || c == 96) then [92, c] else [c]
theorem idx_four (c : UInt8) : decide (Lib.indexByte [36, 34, 92, 96] c < 0) = !(c == 36 || c == 34 || c == 92 || c == 96) := by
 by_cases h1 : c = 36
 ·subst h1; rfl
 by_cases h2 : c = 34
 ·subst h2; rfl
 by_cases h3 : c = 92
 ·subst h3; rfl
 by_cases h4 : c = 96
 ·subst h4; rfl
 have e : Lib.indexByte [36, 34, 92, 96] c = -1 := by simp [Lib.indexByte, Ne.symm h1, Ne.symm h2, Ne.symm h3, Ne.symm h4]
 rw [e, beq_false_of_ne h1, beq_false_of_ne h2, beq_false_of_ne h3, beq_false_of_ne h4]
 rfl
theorem row_one (w : World) (c : UInt8) : OwnB (w.alloc (.cells #[.int .u8 (c.toNat : Int)] 5)) w.heap.size (.slice (some ⟨w.heap.size, 0, none⟩) 1 1) [c] :=
 ⟨rfl, .inr ⟨w.heap.size, 1, _, rfl, ler _, by show (w.heap.push _)[w.heap.size]? = _; simp; rfl, ler _, by unfold maxLen; omega, rfl, rfl⟩⟩
theorem row_two (w : World) (c d : UInt8) : OwnB (w.alloc (.cells #[.int .u8 (c.toNat : Int), .int .u8 (d.toNat : Int)] 5)) w.heap.size (.slice (some ⟨w.heap.size, 0, none⟩) 2 2) [c, d] :=
 ⟨rfl, .inr ⟨w.heap.size, 2, _, rfl, ler _, by show (w.heap.push _)[w.heap.size]? = _; simp; rfl, ler _, by unfold maxLen; omega, rfl, rfl⟩⟩
theorem unescaped_any (c : UInt8) (ins : Bool) (w : World) :
 Calls Tryz.prog 116 #[.int .u8 (c.toNat : Int), .bool ins] w fun e w' => ∃ v, e = .returned v ∧ Below w.heap.size w w' ∧ OwnB w' w.heap.size v (unesc c ins) := by
 have HI : Hid (∀ W, Calls Tryz.prog 83 #[.string ⟨#[36, 34, 92, 96]⟩, .int .u8 (c.toNat : Int)] W fun e w' => e = .returned (.int .i64 (Lib.indexByte [36, 34, 92, 96] c)) ∧ w' = W) := hide (fun W => by
  have := Tryz.strings_IndexByte ⟨#[36, 34, 92, 96]⟩ (c.toNat : Int) W
  rwa [show ((c.toNat : Int)).toNat.toUInt8 = c by simp] at this)
 have hk := idx_four c
 obtain ⟨K, hK⟩ : ∃ x, x = Lib.indexByte [36, 34, 92, 96] c := ⟨_, rfl⟩
 rw [← hK] at hk HI
 have HU : Hid (unesc c ins = if c == 10 then [] else if ins && decide (K < 0) then [92, c] else [c]) := hide (by rw [hk]; rfl)
 clear hk hK
 by_cases h10 : c = 10
 ·subst h10
  go_enter Tryz.func116, Tryz.ntmps116
  go_wp2
  go_ret
  exact ⟨_, rfl, Below.refl _ _, ownB_nil _ _⟩
 have hb : ((c.toNat : Int) == 10) = false := by
  rw [beq_eq_false_iff_ne]
  intro e
  exact h10 (UInt8.toNat_inj.1 (show c.toNat = 10 by omega))
 have HC : Hid ((c == 10) = false) := hide (beq_false_of_ne h10)
 clear h10
 cases ins
 ·go_enter Tryz.func116, Tryz.ntmps116
  go_wp2
  go_ret
  refine ⟨_, rfl, (Below.refl _ _).alloc (ler _) _, ?_⟩
  rw [uh HU, uh HC]
  exact row_one w c
 ·go_enter Tryz.func116, Tryz.ntmps116
  go_wp2_with fail
  refine ((uh HI) _).mono ?_
  rintro en w1 ⟨rfl, rfl⟩
  by_cases hn : K < 0
  ·go_wp2
   go_ret
   refine ⟨_, rfl, (Below.refl _ _).alloc (ler _) _, ?_⟩
   rw [uh HU, uh HC, show decide (K < 0) = true by simpa using hn]
   exact row_two _ 92 c
  ·go_wp2
   go_ret
   refine ⟨_, rfl, (Below.refl _ _).alloc (ler _) _, ?_⟩
   rw [uh HU, uh HC, show decide (K < 0) = false by simpa using hn]
   exact row_one _ c
end Go.Proofs.YtojjfdobilkknaaGreatDoor

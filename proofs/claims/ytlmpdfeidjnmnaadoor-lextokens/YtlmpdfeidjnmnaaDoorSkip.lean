/-
  What is passed over ahead of a token: the lexer's 'skip'; a text up to a byte.
-/
import Derived.Test.YtlmpdfeidjnmnaaDoorRdr
import Derived.Test.YtlmpdfeidjnmnaaDoorOper
import Derived.Deep.RegionHeld3
namespace Go.Proofs.YtlmpdfeidjnmnaaDoor
open Go.RowKit

theorem takeWhile_len (p : UInt8 → Bool) (l : List UInt8) : (l.takeWhile p).length ≤ l.length := (List.takeWhile_sublist p).length_le
/-- The place of a byte, as a text's. -/
theorem index_one (c : UInt8) : ∀ l : List UInt8, Lib.index l [c] = Lib.indexByte l c
  | [] => rfl
  | b :: l => by
    rw [Lib.index, Lib.indexByte, index_one c l]
    have e : [c].isPrefixOf (b :: l) = (b == c) := by
      show (c == b && ([] : List UInt8).isPrefixOf l) = _
      by_cases h : b = c
      · subst h; simp
      · rw [show (b == c) = false from beq_false_of_ne h, show (c == b) = false from beq_false_of_ne (fun e => h e.symm)]; rfl
    rw [e]
theorem take_drop_while (p : UInt8 → Bool) (l : List UInt8) : l.takeWhile p = l.take (l.length - (l.dropWhile p).length) := by
  have h := List.takeWhile_append_dropWhile (p := p) (l := l)
  have hl := congrArg List.length h
  rw [List.length_append] at hl
  rw [show l.length - (l.dropWhile p).length = (l.takeWhile p).length by omega]
  have ht := List.take_left (l₁ := l.takeWhile p) (l₂ := l.dropWhile p)
  rw [h] at ht
  exact ht.symm
theorem cut_one (c : UInt8) (l : List UInt8) : Lib.cut l [c] = (l.takeWhile (fun x => x != c), (l.dropWhile (fun x => x != c)).drop 1, !(l.dropWhile (fun x => x != c)).isEmpty) := by
  unfold Lib.cut
  rw [index_one]
  rcases index_dw l c with ⟨h1, h2⟩ | ⟨k, h1, h2, h3⟩
  · rw [h1, if_neg (by decide), h2]
    have h := List.takeWhile_append_dropWhile (p := fun x => x != c) (l := l)
    rw [h2, List.append_nil] at h
    rw [h]
    rfl
  · rw [h1, if_pos (by omega), h3]
    have ht : l.takeWhile (fun x => x != c) = l.take k := by
      rw [take_drop_while, h3]
      congr 1
      simp
      omega
    rw [ht]
    rfl

/-- What is passed over, plainly. -/
def skL : Nat → List UInt8 → List UInt8
  | 0, l => l
  | _ + 1, [] => []
  | f + 1, c :: r => if blkB (c.toNat : Int) then skL f r else if c = 92 ∧ r.head? = some 10 then skL f (r.drop 1) else if c = 35 then skL f (r.dropWhile (fun x => x != 10)) else c :: r
theorem skL_nil (f : Nat) : skL (f + 1) [] = [] := by rw [skL]
theorem skL_cons (f : Nat) (c : UInt8) (r : List UInt8) : skL (f + 1) (c :: r) = if blkB (c.toNat : Int) then skL f r else if c = 92 ∧ r.head? = some 10 then skL f (r.drop 1) else if c = 35 then skL f (r.dropWhile (fun x => x != 10)) else c :: r := by rw [skL]

/-- What is known in the loop of 'skip'. -/
def SkI (w : World) (b : Nat) (tl : List Value) (s : ByteArray) (d : Nat) (T : List UInt8) (q : Nat) (wr : World) : Prop :=
  Rdr wr b 53 tl s q d 0 0 ∧ w.grownBy wr (some b) ∧ ∃ F, s.size - q + 1 ≤ F ∧ skL F (s.data.toList.drop q) = T

set_option maxRecDepth 20000 in
set_option maxHeartbeats 8000000 in
theorem skip_any (w : World) (b : Nat) (tl : List Value) (s : ByteArray) (p d : Nat) (F : Nat) (m : Int) (h : Rdr w b 53 tl s p d 0 0) (hF : s.size - p + 1 ≤ F) (hm : w.cell? ⟨1, 0, none⟩ = some (.int .i64 m)) (hb1 : 1 < b) :
    Calls Tryd.prog 18 #[.pointer (some ⟨b, 0, none⟩)] w fun e w' => e = .returned (.tuple #[]) ∧ w.grownBy w' (some b) ∧ ∃ q, s.data.toList.drop q = skL F (s.data.toList.drop p) ∧ Rdr w' b 53 tl s q d 0 0 := by
  have hlen := h.len
  have HI : Hid (SkI w b tl s d (skL F (s.data.toList.drop p)) p w) := hide ⟨h, World.grownBy.refl w _, F, hF, rfl⟩
  obtain ⟨T, hT⟩ : ∃ x, x = skL F (s.data.toList.drop p) := ⟨_, rfl⟩
  rw [← hT] at HI ⊢
  have HM1 : Hid (∀ W, w.grownBy W (some b) → W.cell? ⟨1, 0, none⟩ = some (.int .i64 m)) := hide (fun W hg => hg.cell hm (by simp; omega))
  clear h hF hT hm
  go_enter Tryd.func18, Tryd.ntmps18
  go_wp2_with fail
  go_loopw [8] (fun _ wr => ∃ q : Nat, Hid (SkI w b tl s d T q wr)) (fun _ wr => s.size - atOf b wr)
  case atStart => exact ⟨p, HI⟩
  case round =>
    clear HI
    obtain ⟨q, HI⟩ := hrel
    obtain ⟨hR, hG, F1, hF1, hT1⟩ := unhide HI
    clear HI
    have HAT := hide hR.at
    have hle := hR.le
    have hmo := more_any hR
    have HR := hide hR
    have HG := hide hG
    clear hR hG
    by_cases hq : q < s.size
    · have hmb : moreB s q 0 = true := by unfold moreB; rw [decide_eq_true hq]; rfl
      rw [hmb] at hmo
      have HMO := hide hmo
      obtain ⟨F1, rfl⟩ : ∃ G, F1 = G + 1 := ⟨F1 - 1, by omega⟩
      rw [drop_at hq, skL_cons] at hT1
      have hq' : (q : Int) < (s.size : Int) := by omega
      obtain ⟨q1, hq1⟩ : ∃ x, x = q + 1 := ⟨_, rfl⟩
      have hw1 : IntKind.i64.wrap ((q : Int) + 1) = (q1 : Int) := by rw [IntKind.wrap_i64]; omega
      rw [← hq1] at hT1
      have hq1s : q1 ≤ s.size ∧ q < q1 := by omega
      have hdq := drop_at hq
      rw [← hq1] at hdq
      have HDQ := hide hdq
      clear hmo hmb hq1 hdq
      rcases Bool.eq_false_or_eq_true (blkB (s[q].toNat : Int)) with hbl | hbl
      · have HBL : Hid (∀ W, Calls Tryd.prog 37 #[.int .u8 (s[q].toNat : Int)] W fun e w' => e = .returned (.bool true) ∧ Below W.heap.size W w') := hide (fun W => by
          have := blank_any (s[q].toNat : Int) W (byte_range _).1 (byte_range _).2
          rw [hbl] at this
          exact this)
        rw [hbl, if_pos rfl] at hT1
        have HT1 := hide hT1
        clear hT1 hbl
        go_wp2_with fail
        refine (unhide HMO).mono ?_
        rintro en w1 ⟨rfl, k1, hw1e⟩
        subst hw1e
        have c1 := (unhide HR).c1
        have c2 := (unhide HR).c2
        go_wp2_with fail
        go_region_held3 (fun w' => w'.cell? ⟨b, 1, none⟩ = some (.string s) ∧ w'.cell? ⟨b, 2, none⟩ = some (.int .i64 (q : Int))) (go_keep) (first
          | (go_at_call 37
             refine (unhide HBL _).mono ?_
             rintro en w3 ⟨rfl, b3⟩
             have h3 := (((unhide HR).drewN k1).kept (w' := w3) ((grown_drewN _ 1).trans (grown_of_below b3)))
             have y1 := h3.c1
             have y2 := h3.c2
             have z2 := h3.blk.frozen 2
             have H3 := hide h3
             have G3 := hide ((unhide HG).trans (grown_but ((grown_drewN wr k1).trans ((grown_drewN _ 1).trans (grown_of_below b3))) (some b)))
             clear h3 b3))
        clear c1 c2
        go_wp2
        go_roundw
        case rel => exact ⟨q1, hide ⟨(unhide H3).to q1 hq1s.1, (unhide G3).trans (grown_setCell _ ⟨b, 2, none⟩ _), F1, by omega, unhide HT1⟩⟩
        case measure =>
          rw [((unhide H3).to q1 hq1s.1).at, unhide HAT]
          omega
      · have HBL : Hid (∀ W, Calls Tryd.prog 37 #[.int .u8 (s[q].toNat : Int)] W fun e w' => e = .returned (.bool false) ∧ Below W.heap.size W w') := hide (fun W => by
          have := blank_any (s[q].toNat : Int) W (byte_range _).1 (byte_range _).2
          rw [hbl] at this
          exact this)
        rw [hbl, if_neg (by decide)] at hT1
        clear hbl
        by_cases hnl : s[q] = 92 ∧ (s.data.toList.drop q1).head? = some 10
        · rw [if_pos hnl] at hT1
          have hv2 : ((s[q] == 92) && ((s.data.toList.drop q1).head? == some 10)) = true := by rw [hnl.1, hnl.2]; rfl
          have hh := head_cons hnl.2
          obtain ⟨hq1l, hd2⟩ := drop_step hh
          obtain ⟨q2, hq2⟩ : ∃ x, x = q + 2 := ⟨_, rfl⟩
          have hw2 : IntKind.i64.wrap ((q : Int) + 2) = (q2 : Int) := by rw [IntKind.wrap_i64]; omega
          have hq12 : q2 = q1 + 1 ∧ q2 ≤ s.size := by
            have hw1' := hw1
            rw [IntKind.wrap_i64] at hw1'
            omega
          have HT1 : Hid (skL F1 (s.data.toList.drop q2) = T) := hide (by rw [hq12.1, hd2]; exact hT1)
          have hq2s : q2 ≤ s.size ∧ q < q2 := by omega
          have HV2 := hide hv2
          clear hT1 hnl hh hd2 hq2 hq12 hq1l hv2
          go_wp2_with fail
          refine (unhide HMO).mono ?_
          rintro en w1 ⟨rfl, k1, hw1e⟩
          subst hw1e
          have c1 := (unhide HR).c1
          have c2 := (unhide HR).c2
          go_wp2_with fail
          go_region_held3 (fun w' => w'.cell? ⟨b, 1, none⟩ = some (.string s) ∧ w'.cell? ⟨b, 2, none⟩ = some (.int .i64 (q : Int))) (go_keep) (first
            | (go_at_call 37
               refine (unhide HBL _).mono ?_
               rintro en w3 ⟨rfl, b3⟩
               have h3 := (((unhide HR).drewN k1).kept (w' := w3) ((grown_drewN _ 1).trans (grown_of_below b3)))
               have y1 := h3.c1
               have y2 := h3.c2
               have z2 := h3.blk.frozen 2
               have H3 := hide h3
               have G3 := hide ((unhide HG).trans (grown_but ((grown_drewN wr k1).trans ((grown_drewN _ 1).trans (grown_of_below b3))) (some b)))
               clear h3 b3))
          clear c1 c2
          go_wp2_with fail
          refine (sees_any ⟨#[92, 10]⟩ (unhide H3)).mono ?_
          rintro en w5 ⟨rfl, k5, hw5⟩
          subst hw5
          rw [unhide HDQ, show (⟨#[92, 10]⟩ : ByteArray).data.toList = [92, 10] from rfl, hasP_two, unhide HV2]
          go_wp2
          go_roundw
          case rel => exact ⟨q2, hide ⟨((unhide H3).drewN k5).to q2 hq2s.1, (unhide G3).trans ((grown_but (grown_drewN w3 k5) _).trans (grown_setCell _ ⟨b, 2, none⟩ _)), F1, by omega, unhide HT1⟩⟩
          case measure =>
            rw [(((unhide H3).drewN k5).to q2 hq2s.1).at, unhide HAT]
            omega
        · rw [if_neg hnl] at hT1
          have hv2 : ((s[q] == 92) && ((s.data.toList.drop q1).head? == some 10)) = false := by
            rw [Bool.and_eq_false_iff]
            by_cases e1 : s[q] = 92
            · right
              rw [beq_eq_false_iff_ne]
              exact fun e2 => hnl ⟨e1, e2⟩
            · left
              rw [beq_eq_false_iff_ne]
              exact e1
          have HV2 := hide hv2
          clear hnl hv2
          by_cases h35 : s[q] = 35
          · rw [if_pos h35] at hT1
            have hv3 : (s[q] == 35) = true := by rw [h35]; rfl
            have HV3 := hide hv3
            have hcut : Lib.cut (s.data.toList.drop q) [10] = ((s.data.toList.drop q).takeWhile (fun x => x != 10), ((s.data.toList.drop q).dropWhile (fun x => x != 10)).drop 1, !((s.data.toList.drop q).dropWhile (fun x => x != 10)).isEmpty) := cut_one 10 _
            have hdw : (s.data.toList.drop q).dropWhile (fun x => x != 10) = (s.data.toList.drop q1).dropWhile (fun x => x != 10) := by
              rw [unhide HDQ, List.dropWhile_cons, if_pos (by rw [h35]; decide)]
            obtain ⟨A, hA⟩ : ∃ x, x = (s.data.toList.drop q).takeWhile (fun x => x != 10) := ⟨_, rfl⟩
            obtain ⟨B, hB⟩ : ∃ x, x = ((s.data.toList.drop q).dropWhile (fun x => x != 10)).drop 1 := ⟨_, rfl⟩
            obtain ⟨C, hC⟩ : ∃ x, x = !((s.data.toList.drop q).dropWhile (fun x => x != 10)).isEmpty := ⟨_, rfl⟩
            rw [← hA, ← hB, ← hC] at hcut
            have hal : A.length + ((s.data.toList.drop q).dropWhile (fun x => x != 10)).length = s.size - q := by
              have h := congrArg List.length (List.takeWhile_append_dropWhile (p := fun x => x != 10) (l := s.data.toList.drop q))
              rw [List.length_append, ← hA, List.length_drop, data_len] at h
              exact h
            have hdA : s.data.toList.drop (q + A.length) = (s.data.toList.drop q1).dropWhile (fun x => x != 10) := by
              rw [← hdw, ← List.drop_drop]
              have h := List.takeWhile_append_dropWhile (p := fun x => x != 10) (l := s.data.toList.drop q)
              rw [← hA] at h
              conv => lhs; rw [← h]
              exact List.drop_left
            have hA0 : 0 < A.length := by
              rw [hA, unhide HDQ, List.takeWhile_cons, if_pos (by rw [h35]; decide)]
              simp
            obtain ⟨q2, hq2⟩ : ∃ x, x = q + A.length := ⟨_, rfl⟩
            rw [← hq2] at hdA
            have hw2 : IntKind.i64.wrap ((q : Int) + (A.length : Int)) = (q2 : Int) := by rw [IntKind.wrap_i64]; omega
            have hq2s : q2 ≤ s.size ∧ q < q2 := by omega
            have HT1 : Hid (skL F1 (s.data.toList.drop q2) = T) := hide (by rw [hdA]; exact hT1)
            have HCUT : Hid (∀ W, W.cell? ⟨1, 0, none⟩ = some (.int .i64 m) → Calls Tryd.prog 38 #[.string (s.extract q s.size), .string ⟨#[10]⟩] W fun e w' => e = .returned (.tuple #[.string (BA A), .string (BA B), .bool C]) ∧ ∃ n, w' = W.drewN n) := hide (fun W hW => by
              have := Tryd.strings_Cut (s.extract q s.size) ⟨#[10]⟩ m W (by rw [ByteArray.size_extract]; omega) hW
              rw [extract_end, BA_list, show (⟨#[10]⟩ : ByteArray).data.toList = [10] from rfl, hcut] at this
              rw [extract_end]
              exact this)
            clear hT1 h35 hv3 hcut hdw hA hB hC hal hdA hA0 hq2
            go_wp2_with fail
            refine (unhide HMO).mono ?_
            rintro en w1 ⟨rfl, k1, hw1e⟩
            subst hw1e
            have c1 := (unhide HR).c1
            have c2 := (unhide HR).c2
            go_wp2_with fail
            go_region_held3 (fun w' => w'.cell? ⟨b, 1, none⟩ = some (.string s) ∧ w'.cell? ⟨b, 2, none⟩ = some (.int .i64 (q : Int))) (go_keep) (first
              | (go_at_call 37
                 refine (unhide HBL _).mono ?_
                 rintro en w3 ⟨rfl, b3⟩
                 have h3 := (((unhide HR).drewN k1).kept (w' := w3) ((grown_drewN _ 1).trans (grown_of_below b3)))
                 have y1 := h3.c1
                 have y2 := h3.c2
                 have z2 := h3.blk.frozen 2
                 have H3 := hide h3
                 have G3 := hide ((unhide HG).trans (grown_but ((grown_drewN wr k1).trans ((grown_drewN _ 1).trans (grown_of_below b3))) (some b)))
                 clear h3 b3))
            clear c1 c2
            have HC1 := hide (unhide HM1 w3 (unhide G3))
            go_wp2_with fail
            refine (sees_any ⟨#[92, 10]⟩ (unhide H3)).mono ?_
            rintro en w5 ⟨rfl, k5, hw5⟩
            subst hw5
            rw [unhide HDQ, show (⟨#[92, 10]⟩ : ByteArray).data.toList = [92, 10] from rfl, hasP_two, unhide HV2]
            go_wp2_with fail
            refine (sees_any ⟨#[35]⟩ ((unhide H3).drewN k5)).mono ?_
            rintro en w6 ⟨rfl, k6, hw6⟩
            rw [World.drewN_drewN] at hw6
            generalize k5 + k6 = k7 at hw6
            subst hw6
            rw [unhide HDQ, show (⟨#[35]⟩ : ByteArray).data.toList = [35] from rfl, hasP_one, unhide HV3]
            obtain ⟨w8, hw8⟩ : ∃ x, x = w3.drewN k7 := ⟨_, rfl⟩
            have h8 : Rdr w8 b 53 tl s q d 0 0 := by rw [hw8]; exact (unhide H3).drewN k7
            have g8 : w3.grownBy w8 none := by rw [hw8]; exact grown_drewN w3 k7
            have hc8 : w8.cell? ⟨1, 0, none⟩ = some (.int .i64 m) := by rw [hw8]; exact unhide HC1
            rw [← hw8]
            clear hw8 y1 y2 z2
            have y1 := h8.c1
            have y2 := h8.c2
            have z2 := h8.blk.frozen 2
            have H8 := hide h8
            have G8 := hide g8
            have HC8 := hide hc8
            clear h8 g8 hc8
            go_wp2_with fail
            go_quiet ((go_at_call 38; exact Calls.quiet_of (unhide HCUT _ (unhide HC8))))
            go_wp2
            go_roundw
            case rel => exact ⟨q2, hide ⟨((unhide H8).drewN _).to q2 hq2s.1, (unhide G3).trans ((grown_but ((unhide G8).trans (grown_drewN w8 _)) _).trans (grown_setCell _ ⟨b, 2, none⟩ _)), F1, by omega, unhide HT1⟩⟩
            case measure =>
              rw [(((unhide H8).drewN _).to q2 hq2s.1).at, unhide HAT]
              omega
          · rw [if_neg h35, ← unhide HDQ] at hT1
            have hv3 : (s[q] == 35) = false := by rw [beq_eq_false_iff_ne]; exact h35
            have HV3 := hide hv3
            have HT1 := hide hT1
            clear hT1 h35 hv3
            go_wp2_with fail
            refine (unhide HMO).mono ?_
            rintro en w1 ⟨rfl, k1, hw1e⟩
            subst hw1e
            have c1 := (unhide HR).c1
            have c2 := (unhide HR).c2
            go_wp2_with fail
            go_region_held3 (fun w' => w'.cell? ⟨b, 1, none⟩ = some (.string s) ∧ w'.cell? ⟨b, 2, none⟩ = some (.int .i64 (q : Int))) (go_keep) (first
              | (go_at_call 37
                 refine (unhide HBL _).mono ?_
                 rintro en w3 ⟨rfl, b3⟩
                 have h3 := (((unhide HR).drewN k1).kept (w' := w3) ((grown_drewN _ 1).trans (grown_of_below b3)))
                 have y1 := h3.c1
                 have y2 := h3.c2
                 have z2 := h3.blk.frozen 2
                 have H3 := hide h3
                 have G3 := hide ((unhide HG).trans (grown_but ((grown_drewN wr k1).trans ((grown_drewN _ 1).trans (grown_of_below b3))) (some b)))
                 clear h3 b3))
            clear c1 c2
            go_wp2_with fail
            refine (sees_any ⟨#[92, 10]⟩ (unhide H3)).mono ?_
            rintro en w5 ⟨rfl, k5, hw5⟩
            subst hw5
            rw [unhide HDQ, show (⟨#[92, 10]⟩ : ByteArray).data.toList = [92, 10] from rfl, hasP_two, unhide HV2]
            go_wp2_with fail
            refine (sees_any ⟨#[35]⟩ ((unhide H3).drewN k5)).mono ?_
            rintro en w6 ⟨rfl, k6, hw6⟩
            rw [World.drewN_drewN] at hw6
            generalize k5 + k6 = k7 at hw6
            subst hw6
            rw [unhide HDQ, show (⟨#[35]⟩ : ByteArray).data.toList = [35] from rfl, hasP_one, unhide HV3]
            go_wp2
            refine bodyPost_ret (res0 rfl _ _) rfl ?_
            exact ⟨rfl, (unhide G3).trans (grown_but (grown_drewN w3 _) _), q, unhide HT1, (unhide H3).drewN _⟩
    · have hmb : moreB s q 0 = false := by unfold moreB; rw [decide_eq_false hq]; rfl
      rw [hmb] at hmo
      have HMO := hide hmo
      obtain ⟨F1, rfl⟩ : ∃ G, F1 = G + 1 := ⟨F1 - 1, by omega⟩
      rw [drop_nil (by omega), skL_nil] at hT1
      have HT1 : Hid (s.data.toList.drop q = T) := hide (by rw [← hT1]; exact drop_nil (by omega))
      clear hmo hmb hT1
      go_wp2_with fail
      refine (unhide HMO).mono ?_
      rintro en w1 ⟨rfl, k1, hw1e⟩
      subst hw1e
      go_wp2
      refine bodyPost_end (res0 rfl _ _) rfl ?_
      exact ⟨rfl, (unhide HG).trans (grown_but (grown_drewN wr _) _), q, unhide HT1, (unhide HR).drewN _⟩

end Go.Proofs.YtlmpdfeidjnmnaaDoor

/- The lexer's tokens and awaited texts: what a store turns, and what it leaves.; A text in place: the lexer's 'takeUp', where nothing is wrong.; The lexer's whole state against the pure one; 'takeUp' on it. -/
import Derived.Test.YtojjfdobilkknaaGreatDoorM06
import Derived.Deep.RegionHeld3
set_option maxRecDepth 20000
set_option maxHeartbeats 4000000
namespace Go.Proofs.YtojjfdobilkknaaGreatDoor
open Go.RowKit
theorem Toks.grownS {w w1 : World} {base : Nat} {v : Value} {ps : List Nat} {ts : List Tok} {S : Nat → Prop} (h : Toks w base v ps ts) (hg : GrownS w w1 S) (hv : ∀ k, v.ownBlock = some k → ¬ S k) (hp : ∀ p ∈ ps, ¬ S p) : Toks w1 base v ps ts :=
 ⟨own_grownS h.row hg hv, h.len, fun i p t h1 h2 => ⟨(h.blk i p t h1 h2).1, (h.blk i p t h1 h2).2.grownS hg (hp p (List.mem_of_getElem? h1))⟩, h.inc⟩
theorem inc_ne {ps : List Nat} (h : ps.Pairwise (fun a b => a < b)) {i j p : Nat} (hi : ps[i]? = some p) (hj : ps[j]? = some p) : i = j := by
 obtain ⟨hi1, hi2⟩ := List.getElem?_eq_some_iff.1 hi
 obtain ⟨hj1, hj2⟩ := List.getElem?_eq_some_iff.1 hj
 rw [List.pairwise_iff_getElem] at h
 rcases Nat.lt_trichotomy i j with hlt | heq | hgt
 ·have := h i j hi1 hj1 hlt; omega
 ·exact heq
 ·have := h j i hj1 hi1 hgt; omega
theorem Toks.write {w : World} {base : Nat} {v : Value} {ps : List Nat} {ts : List Tok} (h : Toks w base v ps ts) {i p c : Nat} {t : Tok} {x : Value} (g : Tok → Tok) (hp : ps[i]? = some p) (ht : ts[i]? = some t) (hc : (g t).cells = t.cells.setIfInBounds c x) : Toks (w.setCell ⟨p, c, none⟩ x) base v ps (ts.modify i g) := by
 have hb := (h.blk i p t hp ht).2
 refine ⟨h.row.kept (row := some p) (gsc w ⟨p, c, none⟩ x) (Or.inr (fun e => own_type h.row hb (by decide) e.symm)), by rw [List.length_modify]; exact h.len, ?_, h.inc⟩
 intro j p' t' hp' ht'
 rw [List.getElem?_modify] at ht'
 by_cases hij : i = j
 ·subst hij
  rw [hp] at hp'
  injection hp' with hp'
  subst hp'
  rw [ht] at ht'
  have ht' : g t = t' := by simpa using ht'
  subst ht'
  refine ⟨(h.blk i p t hp ht).1, ?_⟩
  rw [hc]
  exact hb.set c x
 ·have ht2 : ts[j]? = some t' := by
   simpa [hij] using ht'
  obtain ⟨h1, h2⟩ := h.blk j p' t' hp' ht2
  exact ⟨h1, h2.other (a := ⟨p, c, none⟩) (fun e => hij (inc_ne h.inc (by rw [← show p' = p from e] at hp; exact hp) hp')) x⟩
structure Wts (w : World) (base : Nat) (u : Value) (ks ps : List Nat) (ws : List Wt) : Prop where
 row : w.ownsRow base 78 1 u ks.length (ptrs ks)
 len : ks.length = ws.length
 blk : ∀ (i k : Nat) (x : Wt), ks[i]? = some k → ws[i]? = some x → base ≤ k ∧ ∃ q, ps[x.tok]? = some q ∧ Blk w k 77 (wtCells q (BA x.en) x.tabs)
theorem wts_nil (w : World) (base : Nat) (ps : List Nat) : Wts w base (.slice none 0 0) [] ps [] :=
 ⟨World.ownsRow_nil _ _ _ _, rfl, fun i k x h => by simp at h⟩
theorem Wts.grownS {w w1 : World} {base : Nat} {u : Value} {ks ps : List Nat} {ws : List Wt} {S : Nat → Prop} (h : Wts w base u ks ps ws) (hg : GrownS w w1 S) (hv : ∀ k, u.ownBlock = some k → ¬ S k) (hp : ∀ k ∈ ks, ¬ S k) : Wts w1 base u ks ps ws := by
 refine ⟨own_grownS h.row hg hv, h.len, fun i k x h1 h2 => ?_⟩
 obtain ⟨h3, q, h4, h5⟩ := h.blk i k x h1 h2
 exact ⟨h3, q, h4, h5.grownS hg (hp k (List.mem_of_getElem? h1))⟩
theorem Wts.more {w : World} {base : Nat} {u : Value} {ks ps : List Nat} {ws : List Wt} (h : Wts w base u ks ps ws) (qs : List Nat) : Wts w base u ks (ps ++ qs) ws := by
 refine ⟨h.row, h.len, fun i k x h1 h2 => ?_⟩
 obtain ⟨h3, q, h4, h5⟩ := h.blk i k x h1 h2
 exact ⟨h3, q, by rw [List.getElem?_append_left (List.getElem?_eq_some_iff.1 h4).1]; exact h4, h5⟩
def TkEnd (w : World) (b : Nat) (tl : List Value) (s : ByteArray) (d q : Nat) (t : Tok) (T : Option (List UInt8 × List UInt8)) (e : Ending) (w' : World) : Prop :=
 e = .returned (.tuple #[]) ∧ ∃ r, match T with
  | some (body, rest) => s.data.toList.drop r = rest ∧ Rdr w' b 71 tl s r d 0 0 ∧ GrownS w w' (fun x => x = b ∨ x = q) ∧ Blk w' q 74 ({ t with body := BA body } : Tok).cells
  | none => s.data.toList.drop r = [] ∧ Rdr w' b 71 tl s r d 12 t.pos ∧ GrownS w w' (fun x => x = b)
theorem takeL_nil (f : Nat) (tabs : Bool) (en acc : List UInt8) : takeL f tabs en [] acc = none := by cases f <;> rfl
theorem bldAt_grownS {T e : TypeId} {B bb : Nat} {x : Value} {bs : List Value} {w w1 : World} {S : Nat → Prop} (h : Lib.BuilderAt T e B bb x bs w) (hg : GrownS w w1 S) (hS : ∀ y, S y → y < B) : Lib.BuilderAt T e B bb x bs w1 := by
 obtain ⟨h1, v, h2, h3, h4⟩ := h
 refine ⟨h1, v, (hg.block bb (Array.getElem?_eq_some_iff.1 h2).1 (fun e => by have := hS bb e; omega)).trans h2, own_grownS h3 hg (fun y hy e => ?_), h4⟩
 have a1 := (World.ownsRow.lt h3 y hy).1
 have a2 := hS y e
 omega
theorem bld_grownS {T e : TypeId} {B bb : Nat} {bs : List Value} {w w1 : World} {S : Nat → Prop} (h : Lib.IsBuilder T e B bb bs w) (hg : GrownS w w1 S) (hS : ∀ y, S y → y < B) : Lib.IsBuilder T e B bb bs w1 := by
 rcases h with h | h
 ·exact .inl (bldAt_grownS h hg hS)
 ·exact .inr (bldAt_grownS h hg hS)
theorem grownS_below {w w2 w5 : World} {S : Nat → Prop} (h : GrownS w w2 S) (hb : Below w.heap.size w2 w5) : GrownS w w5 S :=
 ⟨hb.os.trans h.os, hb.tape.trans h.tape, hb.output.trans h.output, lee h.size hb.size, fun k hk hn => (hb.block k hk).trans (h.block k hk hn)⟩
theorem take_len {l : List UInt8} (hl : l ≠ []) : (l.takeWhile (fun x => x != 10)).length + 1 + 2 * ((l.dropWhile (fun x => x != 10)).drop 1).length ≤ 2 * l.length := by
 have h := congrArg List.length (List.takeWhile_append_dropWhile (p := fun x => x != 10) (l := l))
 rw [List.length_append] at h
 rw [List.length_drop]
 have : 0 < l.length := List.length_pos_iff.2 hl
 omega
theorem trim_len (l : List UInt8) (c : UInt8) : (Lib.trimLeftB l c).length ≤ l.length := (List.dropWhile_sublist _).length_le
theorem takeL_hit {f : Nat} {tabs : Bool} {en l acc L : List UInt8} (hl : l ≠ []) (hL : L = if tabs then Lib.trimLeftB (l.takeWhile (fun x => x != 10)) 9 else l.takeWhile (fun x => x != 10)) : takeL (f + 1) tabs en l acc = if L = en then some (acc, (l.dropWhile (fun x => x != 10)).drop 1) else takeL f tabs en ((l.dropWhile (fun x => x != 10)).drop 1) (acc ++ L ++ [10]) := by
 cases l with
 | nil => exact absurd rfl hl
 | cons c r => rw [hL]; rfl
theorem takeUp_any (w : World) (b : Nat) (tl : List Value) (s : ByteArray) (p d : Nat) (k q : Nat) (en : List UInt8) (tabs : Bool) (t : Tok) (m : Int) (h : Rdr w b 71 tl s p d 0 0) (hk : Blk w k 77 (wtCells q (BA en) tabs)) (hq : Blk w q 74 t.cells) (hm : w.cell? ⟨1, 0, none⟩ = some (.int .i64 m)) (hb1 : 1 < b) :
 Calls Tryz.prog 70 #[.pointer (some ⟨b, 0, none⟩), .pointer (some ⟨k, 0, none⟩)] w fun e w' => TkEnd w b tl s d q t (takeL (s.size - p + 1) tabs en (s.data.toList.drop p) []) e w' := by
 obtain ⟨T, hT⟩ : ∃ T, T = takeL (s.size - p + 1) tabs en (s.data.toList.drop p) [] := ⟨_, rfl⟩
 rw [← hT]
 have hkb : k ≠ b := fun e => by
  rw [e] at hk
  have := hk.symm.trans h.blk
  simp at this
 have hqb : q ≠ b := fun e => by
  rw [e] at hq
  have := hq.symm.trans h.blk
  simp at this
 have hkq : ¬ k = q := fun e => by
  rw [e] at hk
  have := hk.symm.trans hq
  simp at this
 have HT := hide hT.symm
 have H := hide h
 have HK := hide hk
 have HQ := hide hq
 have HM := hide hm
 have hbl := h.blk.lt
 have HKL := hide hk.lt
 have HQL := hide hq.lt
 clear hT h hk hq hm
 go_enter Tryz.func70, Tryz.ntmps70
 go_wp2_with fail
 go_loopw [9] (fun _ wr => ∃ (r F : Nat) (acc : List UInt8), Hid (s.size - r + 1 ≤ F ∧ acc.length ≤ 2 * r ∧ takeL F tabs en (s.data.toList.drop r) acc = T) ∧ Hid (Rdr wr b 71 tl s r d 0 0) ∧ Hid (Lib.IsBuilder 118 5 w.heap.size w.heap.size (Lib.byteCells acc) wr) ∧ Hid (GrownS w wr (fun x => x = b))) (fun _ wr => s.size - atOf b wr)
 case atStart => exact ⟨p, s.size - p + 1, [], hide ⟨ler _, by simp, uh HT⟩, hide ((uh H).kept (World.grownBy_alloc w _ none)), hide (Lib.fresh_isBuilder _ _ w), hide (GrownS.of (World.grownBy_alloc w _ none) (by simp))⟩
 case round =>
  obtain ⟨r, F, acc, HF, HR, HBU, HG⟩ := hrel
  by_cases hlt : r < s.size
  ·have hmo := more_any (uh HR)
   rw [show moreB s r 0 = true by unfold moreB; simp [hlt]] at hmo
   have HMO := hide hmo
   clear hmo
   go_wp2_with fail
   refine (uh HMO).mono ?_
   rintro en1 w1 ⟨rfl, k1, hw1⟩
   have HR1 : Hid (Rdr w1 b 71 tl s r d 0 0) := hide (by rw [hw1]; exact (uh HR).kept (gdn _ _))
   have HG1 : Hid (GrownS w w1 (fun x => x = b)) := hide (by rw [hw1]; exact (uh HG).trans (GrownS.of (gdn _ _) (by simp)))
   have HB1 : Hid (Lib.IsBuilder 118 5 w.heap.size w.heap.size (Lib.byteCells acc) w1) := hide (bld_grownS (S := fun _ => False) (uh HBU) (by rw [hw1]; exact GrownS.of (gdn _ _) (by simp)) (fun _ e => e.elim))
   have HAT : Hid (atOf b wr = r) := hide (uh HR).at
   clear hw1 HMO HR HG HBU
   have h1b : w1.cell? ⟨1, 0, none⟩ = some (.int .i64 m) := by
    rw [World.cell?_of_block ((uh HG1).block 1 (by omega) (by omega))]
    exact uh HM
   have HLI := hide (line_any w1 b tl s r d m (uh HR1) h1b)
   clear h1b
   go_wp2_with fail
   refine (uh HLI).mono ?_
   rintro en2 w2 ⟨rfl, g2, r2, hr2, h2⟩
   have HG2 := hide ((uh HG1).trans (GrownS.of g2 (fun x e => by simpa using e)))
   have HB2 := hide (bld_grownS (S := fun x => x = b) (uh HB1) (GrownS.of g2 (fun x e => by simpa using e)) (fun y e => by rw [e]; exact hbl))
   have HR2 := hide h2
   have HL2 := hide hr2
   clear g2 h2 hr2 HLI HR1 HG1 HB1
   obtain ⟨A, hA⟩ : ∃ A, A = (s.data.toList.drop r).takeWhile (fun x => x != 10) := ⟨_, rfl⟩
   rw [← hA]
   have HA := hide hA
   clear hA
   have k0 : w2.cell? ⟨k, 0, none⟩ = some (.pointer (some ⟨q, 0, none⟩)) := ((uh HK).grownS (uh HG2) hkb).cell 0 rfl
   have k1' : w2.cell? ⟨k, 1, none⟩ = some (.string (BA en)) := ((uh HK).grownS (uh HG2) hkb).cell 1 rfl
   have k2 : w2.cell? ⟨k, 2, none⟩ = some (.bool tabs) := ((uh HK).grownS (uh HG2) hkb).cell 2 rfl
   cases tabs with
   | true =>
     obtain ⟨L, hL⟩ : ∃ L, L = Lib.trimLeftB A 9 := ⟨_, rfl⟩
     have HTR : Hid (Calls Tryz.prog 87 #[.string (BA A), .string ⟨#[9]⟩] w2 fun e w' => e = .returned (.string (BA L)) ∧ w' = w2) := hide (by rw [hL]; exact Tryz.strings_TrimLeft_one (BA A) 9 (by decide) w2)
     have HLL := hide hL
     clear hL
     go_wp2_with fail
     refine (uh HTR).mono ?_
     rintro en3 w3 ⟨rfl, hw3⟩
     rw [show w3 = w2 from hw3]
     clear hw3 HTR
     obtain ⟨F, rfl⟩ : ∃ g, F = g + 1 := ⟨F - 1, by have := (uh HF).1; omega⟩
     have hne : s.data.toList.drop r ≠ [] := by rw [drop_at hlt]; simp
     have HTK := hide (takeL_hit (f := F) (tabs := true) (en := en) (acc := acc) (L := L) hne (by rw [uh HLL, uh HA]; rfl))
     have HLN : Hid (L.length + 1 + 2 * (s.data.toList.drop r2).length ≤ 2 * (s.data.toList.drop r).length) := hide (by
      have a1 := take_len hne
      rw [uh HL2]
      have a2 : L.length ≤ A.length := by rw [uh HLL]; exact trim_len _ _
      rw [uh HA] at a2
      omega)
     clear hne
     by_cases hLe : L = en
     ·have hc : ((BA L).toList == (BA en).toList) = true := by rw [hLe]; exact beq_self_eq_true _
      have HTS : Hid (T = some (acc, s.data.toList.drop r2)) := hide (by rw [← (uh HF).2.2, uh HTK, if_pos hLe, uh HL2])
      have hszw : w.heap.size ≤ w2.heap.size := (uh HG2).size
      clear hLe HLN
      go_wp2_with fail
      go_region_held3 (fun w' => w'.cell? ⟨k, 0, none⟩ = some (.pointer (some ⟨q, 0, none⟩))) (go_keep) (first
       | (go_at_call 88
          refine (Tryz.Builder_String_any w.heap.size w.heap.size acc _ (bld_grownS (S := fun _ => False) (uh HB2) (GrownS.of (gdn _ 1) (by simp)) (fun _ e => e.elim)) hszw).mono ?_
          rintro en5 w5 ⟨rfl, b5⟩
          have g5 := grownS_below ((uh HG2).trans (GrownS.of (gdn _ 1) (by simp))) b5
          have y1 : w5.cell? ⟨k, 0, none⟩ = some (.pointer (some ⟨q, 0, none⟩)) := ((uh HK).grownS g5 hkb).cell 0 rfl
          have y4 : (w5.setCell ⟨q, 3, none⟩ (.string ⟨acc.toArray⟩)).cell? ⟨k, 0, none⟩ = some (.pointer (some ⟨q, 0, none⟩)) := (((uh HK).grownS g5 hkb).other (a := ⟨q, 3, none⟩) hkq _).cell 0 rfl
          have hq5 := (uh HQ).grownS g5 hqb
          have y3 : w5.cell? ⟨q, 3, none⟩ = some (.string t.body) := hq5.cell 3 rfl
          have z3 := hq5.frozen 3
          have HQ5 := hide hq5
          have HR5 : Hid (Rdr w5 b 71 tl s r2 d 0 0) := hide ⟨(((uh HR2).kept (gdn _ 1)).blk).below b5 hbl, (uh HR2).le, (uh HR2).len, (uh HR2).dle⟩
          have G5 := hide g5
          clear g5 hq5 b5))
      all_goals
       go_wp2
       refine bodyPost_end (res0 rfl _ _) rfl ?_
       rw [uh HTS]
       refine ⟨rfl, r2, rfl, ⟨(uh HR5).blk.other (a := ⟨q, 3, none⟩) (fun e => hqb e.symm) _, (uh HR5).le, (uh HR5).len, (uh HR5).dle⟩, ((uh G5).mono (fun _ _ e => .inl e)).trans (GrownS.of (gsc _ ⟨q, 3, none⟩ _) (fun x e => .inr (by simpa using e))), ?_⟩
       exact (uh HQ5).set 3 (.string (BA acc))
     ·have hc : ((BA L).toList == (BA en).toList) = false := by
       rw [beq_eq_false_iff_ne, ByteArray.toList_eq, ByteArray.toList_eq]
       exact hLe
      have HTS : Hid (takeL F true en (s.data.toList.drop r2) (acc ++ L ++ [10]) = T) := hide (by rw [← (uh HF).2.2, uh HTK, if_neg hLe, uh HL2])
      have hr2s := (uh HR2).le
      have hsl := (uh HR2).len
      have hln : L.length + 1 + 2 * (s.size - r2) ≤ 2 * (s.size - r) := by
       have := uh HLN
       rw [List.length_drop, List.length_drop, data_len] at this
       exact this
      have hac := (uh HF).2.1
      have hLs : (BA L).size ≤ 200000 := by rw [BA_size]; omega
      have HW := hide (write_any w.heap.size w.heap.size acc (BA L ++ ⟨#[10]⟩) w2 (uh HB2) (by rw [ByteArray.size_append, BA_size]; show acc.length + (L.length + 1) ≤ _; omega) (uh HG2).size)
      clear hLe HLN
      go_wp2_with fail
      refine (uh HW).mono ?_
      rintro en6 w6 ⟨rfl, hb6, b6⟩
      have g6 := grownS_below (uh HG2) b6
      have hr6 : Rdr w6 b 71 tl s r2 d 0 0 := ⟨(uh HR2).blk.below b6 hbl, (uh HR2).le, (uh HR2).len, (uh HR2).dle⟩
      have HB6 : Hid (Lib.IsBuilder 118 5 w.heap.size w.heap.size (Lib.byteCells (acc ++ L ++ [10])) w6) := hide (by
       rw [List.append_assoc, show L ++ [10] = (BA L ++ ⟨#[10]⟩).data.toList by simp [BA]]; exact hb6)
      have HR6 := hide hr6
      have HG6 := hide g6
      clear hb6 b6 g6 hr6 HW
      go_wp2
      go_roundw
      case rel => exact ⟨r2, F, acc ++ L ++ [10], hide ⟨by have := (uh HF).1; omega, by rw [List.length_append, List.length_append]; show acc.length + L.length + 1 ≤ _; omega, uh HTS⟩, HR6, HB6, HG6⟩
      case measure =>
       rw [(uh HR6).at, uh HAT]
       omega
   | false =>
     obtain ⟨L, hL⟩ : ∃ L, L = A := ⟨_, rfl⟩
     have HLL := hide hL
     rw [← hL]
     clear hL
     obtain ⟨F, rfl⟩ : ∃ g, F = g + 1 := ⟨F - 1, by have := (uh HF).1; omega⟩
     have hne : s.data.toList.drop r ≠ [] := by rw [drop_at hlt]; simp
     have HTK := hide (takeL_hit (f := F) (tabs := false) (en := en) (acc := acc) (L := L) hne (by rw [uh HLL, uh HA]; rfl))
     have HLN : Hid (L.length + 1 + 2 * (s.data.toList.drop r2).length ≤ 2 * (s.data.toList.drop r).length) := hide (by
      have a1 := take_len hne
      rw [uh HL2]
      have a2 : L.length ≤ A.length := by rw [uh HLL]; exact ler _
      rw [uh HA] at a2
      omega)
     clear hne
     by_cases hLe : L = en
     ·have hc : ((BA L).toList == (BA en).toList) = true := by rw [hLe]; exact beq_self_eq_true _
      have HTS : Hid (T = some (acc, s.data.toList.drop r2)) := hide (by rw [← (uh HF).2.2, uh HTK, if_pos hLe, uh HL2])
      have hszw : w.heap.size ≤ w2.heap.size := (uh HG2).size
      clear hLe HLN
      go_wp2_with fail
      go_region_held3 (fun w' => w'.cell? ⟨k, 0, none⟩ = some (.pointer (some ⟨q, 0, none⟩))) (go_keep) (first
       | (go_at_call 88
          refine (Tryz.Builder_String_any w.heap.size w.heap.size acc _ (bld_grownS (S := fun _ => False) (uh HB2) (GrownS.of (gdn _ 1) (by simp)) (fun _ e => e.elim)) hszw).mono ?_
          rintro en5 w5 ⟨rfl, b5⟩
          have g5 := grownS_below ((uh HG2).trans (GrownS.of (gdn _ 1) (by simp))) b5
          have y1 : w5.cell? ⟨k, 0, none⟩ = some (.pointer (some ⟨q, 0, none⟩)) := ((uh HK).grownS g5 hkb).cell 0 rfl
          have y4 : (w5.setCell ⟨q, 3, none⟩ (.string ⟨acc.toArray⟩)).cell? ⟨k, 0, none⟩ = some (.pointer (some ⟨q, 0, none⟩)) := (((uh HK).grownS g5 hkb).other (a := ⟨q, 3, none⟩) hkq _).cell 0 rfl
          have hq5 := (uh HQ).grownS g5 hqb
          have y3 : w5.cell? ⟨q, 3, none⟩ = some (.string t.body) := hq5.cell 3 rfl
          have z3 := hq5.frozen 3
          have HQ5 := hide hq5
          have HR5 : Hid (Rdr w5 b 71 tl s r2 d 0 0) := hide ⟨(((uh HR2).kept (gdn _ 1)).blk).below b5 hbl, (uh HR2).le, (uh HR2).len, (uh HR2).dle⟩
          have G5 := hide g5
          clear g5 hq5 b5))
      all_goals
       go_wp2
       refine bodyPost_end (res0 rfl _ _) rfl ?_
       rw [uh HTS]
       refine ⟨rfl, r2, rfl, ⟨(uh HR5).blk.other (a := ⟨q, 3, none⟩) (fun e => hqb e.symm) _, (uh HR5).le, (uh HR5).len, (uh HR5).dle⟩, ((uh G5).mono (fun _ _ e => .inl e)).trans (GrownS.of (gsc _ ⟨q, 3, none⟩ _) (fun x e => .inr (by simpa using e))), ?_⟩
       exact (uh HQ5).set 3 (.string (BA acc))
     ·have hc : ((BA L).toList == (BA en).toList) = false := by
       rw [beq_eq_false_iff_ne, ByteArray.toList_eq, ByteArray.toList_eq]
       exact hLe
      have HTS : Hid (takeL F false en (s.data.toList.drop r2) (acc ++ L ++ [10]) = T) := hide (by rw [← (uh HF).2.2, uh HTK, if_neg hLe, uh HL2])
      have hr2s := (uh HR2).le
      have hsl := (uh HR2).len
      have hln : L.length + 1 + 2 * (s.size - r2) ≤ 2 * (s.size - r) := by
       have := uh HLN
       rw [List.length_drop, List.length_drop, data_len] at this
       exact this
      have hac := (uh HF).2.1
      have hLs : (BA L).size ≤ 200000 := by rw [BA_size]; omega
      have HW := hide (write_any w.heap.size w.heap.size acc (BA L ++ ⟨#[10]⟩) w2 (uh HB2) (by rw [ByteArray.size_append, BA_size]; show acc.length + (L.length + 1) ≤ _; omega) (uh HG2).size)
      clear hLe HLN
      go_wp2_with fail
      refine (uh HW).mono ?_
      rintro en6 w6 ⟨rfl, hb6, b6⟩
      have g6 := grownS_below (uh HG2) b6
      have hr6 : Rdr w6 b 71 tl s r2 d 0 0 := ⟨(uh HR2).blk.below b6 hbl, (uh HR2).le, (uh HR2).len, (uh HR2).dle⟩
      have HB6 : Hid (Lib.IsBuilder 118 5 w.heap.size w.heap.size (Lib.byteCells (acc ++ L ++ [10])) w6) := hide (by
       rw [List.append_assoc, show L ++ [10] = (BA L ++ ⟨#[10]⟩).data.toList by simp [BA]]; exact hb6)
      have HR6 := hide hr6
      have HG6 := hide g6
      clear hb6 b6 g6 hr6 HW
      go_wp2
      go_roundw
      case rel => exact ⟨r2, F, acc ++ L ++ [10], hide ⟨by have := (uh HF).1; omega, by rw [List.length_append, List.length_append]; show acc.length + L.length + 1 ≤ _; omega, uh HTS⟩, HR6, HB6, HG6⟩
      case measure =>
       rw [(uh HR6).at, uh HAT]
       omega
  ·have hmo := more_any (uh HR)
   rw [show moreB s r 0 = false by unfold moreB; simp [hlt]] at hmo
   have HMO := hide hmo
   have HTN : Hid (T = none) := hide (by rw [← (uh HF).2.2, drop_nil (by omega), takeL_nil])
   have k0 : wr.cell? ⟨k, 0, none⟩ = some (.pointer (some ⟨q, 0, none⟩)) := ((uh HK).grownS (uh HG) hkb).cell 0 rfl
   have q2 : wr.cell? ⟨q, 2, none⟩ = some (.int .i64 t.pos) := ((uh HQ).grownS (uh HG) hqb).cell 2 rfl
   clear hmo
   go_wp2_with fail
   refine (uh HMO).mono ?_
   rintro en w1 ⟨rfl, k1, hw1⟩
   have k0' : w1.cell? ⟨k, 0, none⟩ = some (.pointer (some ⟨q, 0, none⟩)) := by rw [hw1]; exact k0
   have q2' : w1.cell? ⟨q, 2, none⟩ = some (.int .i64 t.pos) := by rw [hw1]; exact q2
   have HR1 : Hid (Rdr w1 b 71 tl s r d 0 0) := hide (by rw [hw1]; exact (uh HR).kept (gdn _ _))
   have HG1 : Hid (GrownS w w1 (fun x => x = b)) := hide (by rw [hw1]; exact (uh HG).trans (GrownS.of (gdn _ _) (by simp)))
   clear hw1 k0 q2
   go_wp2_with fail
   go_region_held3 (fun w' => w'.cell? ⟨k, 0, none⟩ = some (.pointer (some ⟨q, 0, none⟩)) ∧ w'.cell? ⟨q, 2, none⟩ = some (.int .i64 t.pos)) (go_keep) (first
    | (go_at_call 30
       refine (fail_any 12 t.pos ((uh HR1).kept (gdn _ 1))).mono ?_
       rintro en w3 ⟨rfl, h3, g3⟩
       have g4 := (uh HG1).trans ((GrownS.of (gdn _ 1) (by simp)).trans (GrownS.of g3 (fun x e => by simpa using e)))
       have y1 : w3.cell? ⟨k, 0, none⟩ = some (.pointer (some ⟨q, 0, none⟩)) := ((uh HK).grownS g4 hkb).cell 0 rfl
       have y2 : w3.cell? ⟨q, 2, none⟩ = some (.int .i64 t.pos) := ((uh HQ).grownS g4 hqb).cell 2 rfl
       have H3 := hide h3
       have G3 := hide g4
       clear h3 g3 g4))
   go_wp2
   refine bodyPost_end (res0 rfl _ _) rfl ?_
   rw [uh HTN]
   exact ⟨rfl, r, drop_nil (by omega), uh H3, uh G3⟩
theorem Toks.swap {w w1 : World} {b : Nat} {v : Value} {ps : List Nat} {ts : List Tok} (h : Toks w (b + 1) v ps ts) {i q : Nat} {t : Tok} {L : Array Value} (g : Tok → Tok) (hL : Blk w b 71 L) (hp : ps[i]? = some q) (ht : ts[i]? = some t) (hg : GrownS w w1 (fun x => x = b ∨ x = q)) (hb : Blk w1 q 74 (g t).cells) : Toks w1 (b + 1) v ps (ts.modify i g) := by
 have hq := (h.blk i q t hp ht).2
 refine ⟨own_grownS h.row hg ?_, by rw [List.length_modify]; exact h.len, ?_, h.inc⟩
 ·rintro k hk (rfl | rfl)
  ·exact own_type h.row hL (by decide) hk.symm
  ·exact own_type h.row hq (by decide) hk.symm
 ·intro j p' t' hp' ht'
  rw [List.getElem?_modify] at ht'
  by_cases hij : i = j
  ·subst hij
   rw [hp] at hp'
   injection hp' with hp'
   subst hp'
   rw [ht] at ht'
   have ht' : g t = t' := by simpa using ht'
   subst ht'
   exact ⟨(h.blk i q t hp ht).1, hb⟩
  ·have ht2 : ts[j]? = some t' := by simpa [hij] using ht'
   obtain ⟨h1, h2⟩ := h.blk j p' t' hp' ht2
   refine ⟨h1, h2.grownS hg ?_⟩
   rintro (e | e)
   ·omega
   ·exact hij (inc_ne h.inc (by rw [← e] at hp; exact hp) hp')
structure LexAt (w : World) (b : Nat) (v u : Value) (s : ByteArray) (r : Nat) (ps ks : List Nat) (st : LS) : Prop where
 rdr : Rdr w b 71 [v, u] s r 0 st.flt st.blm
 toks : Toks w (b + 1) v ps st.toks
 wts : Wts w (b + 1) u ks ps st.wait
 rest : st.flt = 0 → s.data.toList.drop r = st.rest
 zero : st.flt = 0 → st.blm = 0
theorem Wts.past {w w1 : World} {b q : Nat} {u : Value} {ks ps : List Nat} {ws : List Wt} {L C : Array Value} (h : Wts w (b + 1) u ks ps ws) (hL : Blk w b 71 L) (hq : Blk w q 74 C) (hg : GrownS w w1 (fun x => x = b ∨ x = q)) : Wts w1 (b + 1) u ks ps ws := by
 refine h.grownS hg ?_ ?_
 ·rintro k hk (rfl | rfl)
  ·exact own_type h.row hL (by decide) hk.symm
  ·exact own_type h.row hq (by decide) hk.symm
 ·intro k hk
  obtain ⟨i, hi, rfl⟩ := List.getElem_of_mem hk
  have hi2 : i < ws.length := by rw [← h.len]; exact hi
  obtain ⟨h3, q', _, h5⟩ := h.blk i ks[i] ws[i] (List.getElem?_eq_getElem hi) (List.getElem?_eq_getElem hi2)
  rintro (e | e)
  ·omega
  ·rw [e] at h5
   have := h5.symm.trans hq
   simp at this
end Go.Proofs.YtojjfdobilkknaaGreatDoor

/-
  The document's reader: brace, with a sign (RWBr5).
  The document's reader: brace of any text.
-/
import Derived.Test.YtnamfjbfcbamjaaGreatDoorP31
import Derived.Test.YtnamfjbfcbamjaaGreatDoorP32
import Derived.Test.YtnamfjbfcbamjaaGreatDoorP33
import Derived.Test.YtnamfjbfcbamjaaGreatDoorP34
namespace Go.Proofs.YtnamfjbfcbamjaaGreatDoor
open Go.RowKit
set_option maxRecDepth 20000 in
set_option maxHeartbeats 8000000 in
theorem rbr_ok5f (k : Nat) (ts : ByteArray) (w : World) (b : Nat) (X : Nat → Prop) (ps : List Prt) (q : Bool) (hk : k < 6) (hq : allW k = q) (hs : ts.size ≤ 4096) (h : RWt w b X ps 0) (hr : Room ps (ts.size + 1)) (hg : lenB ts.data.toList = false) (n : Nat) (hn : parN ts.data.toList = n) (h0 : n ≠ 0) (hnl : n < ts.size)  (hcl : colonL (ts.data.toList.drop n) = false) (l2 : List UInt8) (hl2 : behindL (ts.data.toList.drop n) = l2) (r2 : ByteArray) (hr2 : r2 = BA l2) (hr2s : r2.size ≤ 4096) (c : UInt8) (t : List UInt8) (hz : l2 = c :: t) (tw : Bool) (htw : twB l2 = tw) (e45 : ((c.toNat : Int) == 45) = false) (e61 : ((c.toNat : Int) == 61) = false) (e63 : ((c.toNat : Int) == 63) = false) (e43 : ((c.toNat : Int) == 43) = true) (t2 : List UInt8) (ht2 : r2.extract 1 r2.size = BA t2) (R : Rd) (hRd : ∀ W, Calls Tryz.prog 19 #[.string (BA t2), .int .i64 ((withinW k 5 : Nat) : Int)] W fun e w' => WEnd R W e w') :
    Calls Tryz.prog 49 #[.pointer (some ⟨b, 0, none⟩), .string ts, .int .i64 (k : Int)] w fun e w' => RBrEnd q (bdOf (ts.data.toList.take n) 5 false R) w b X ps e w' := by
  have HP : Hid (∀ (u : ByteArray) W, u.size ≤ 100000 → Calls Tryz.prog 65 #[.string u] W fun e w' => e = .returned (.int .i64 (parN u.data.toList : Int)) ∧ w' = W) := hide (fun u W hu => rparam_any u W hu)
  have HB0 : Hid (∀ o, Below w.heap.size w (w.alloc o)) := hide (fun o => (Below.refl _ w).alloc (Nat.le_refl _) _)
  have hbw := h.lt
  have HH := hide h
  have HR := hide hr
  have HG := hide hg
  have HAL := hide (fun W => rallw_any k W hk)
  rw [hq] at HAL
  have hce : ∀ o, (w.alloc o).cell? ⟨b, 1, none⟩ = some (.int .i64 0) := fun o => ((h.below (unhide HB0 o)).err 0).1
  have hfe : ∀ o, (w.alloc o).frozen? ⟨b, 1, none⟩ = false := fun o => ((h.below (unhide HB0 o)).err 0).2.1
  have HER : Hid (∀ o, RAdds w b X ps 10 ((w.setCell ⟨b, 1, none⟩ (.int .i64 10)).alloc o)) := hide (fun o => (h.err 10).2.2.below ((Below.refl _ _).alloc (Nat.le_refl _) _))
  have HA : Hid (∀ w1 (t : ByteArray) (o : Int), t.size ≤ ts.size → Below w.heap.size w w1 → Calls Tryz.prog 28 #[.pointer (some ⟨b, 0, none⟩), .agg #[.int .i64 2, .string t, .bool q, .int .i64 o, .bool false, .slice none 0 0]] w1 fun e w' => e = .returned (.tuple #[]) ∧ RAdds w b X (addP ps (.mk 2 t.data.toList q o false [])) 0 w') := hide (fun w1 t o ht hb =>
    (rplain_add w1 b X ps 0 2 t q o false (h.below hb) ⟨by have := hr.1; omega, by have := hr.2; omega⟩).mono (fun e w' ⟨h1, h3⟩ => ⟨h1, h3.of_below hb⟩))
  clear h hr hg hq
  have hs1 : ts.size ≤ 100000 := by omega
  have hn0 : ((n : Int) == 0) = false := by rw [beq_eq_false_iff_ne]; omega
  have hni : (n : Int) ≤ (ts.size : Int) := by omega
  obtain ⟨rs, hrs⟩ : ∃ x, x = ts.extract n ts.size := ⟨_, rfl⟩
  obtain ⟨tx, htx⟩ : ∃ x, x = ts.extract 0 n := ⟨_, rfl⟩
  have hrl : rs.data.toList = ts.data.toList.drop n := by rw [hrs, ext_list]
  have HTX : Hid (tx.data.toList = ts.data.toList.take n) := hide (by rw [htx, ext_to])
  have htxs : tx.size ≤ ts.size := by rw [htx, ByteArray.size_extract]; omega
  rw [← hrl] at hcl hl2
  have hrsz : rs.size = ts.size - n := by rw [← data_len, hrl, List.length_drop, data_len]
  have hr0 : 0 < rs.size := by omega
  have hem : rs.toList.isEmpty = false := nonempty_of hr0
  have hcol : colonL rs.data.toList = ((rs[0].toNat : Int) == 58) := head_i hr0 58 (by omega)
  have HR2 : Hid (r2 = BA (behindL rs.data.toList)) := hide (by rw [hl2, hr2])
  have HCOL := hide (hcl.symm.trans hcol)
  have hr4 : rs.size ≤ 4096 := by omega
  have HRS := hide hrs
  have HTS := hide htx
  have HL2 := hide hr2
  clear hrl hcol hrs htx hrsz hcl hl2 hr2 h0
  have hz0 : 0 < r2.size := by rw [unhide HL2, hz]; simp
  have hne : r2.toList.isEmpty = false := nonempty_of hz0
  have hr2l : r2.data.toList = c :: t := by rw [unhide HL2, hz, BA_list]
  have hc0 : r2[0]'hz0 = c := by
    have := head_get hz0
    rw [hr2l] at this
    injection this with h1 _
    exact h1.symm
  have HTW : Hid (tw = twB r2.data.toList) := hide (by rw [hr2l, ← hz, htw])
  have HC2 := hide hr2l
  clear hz htw hr2l
  have HT := hide ht2
  have HRD := hide hRd
  clear ht2 hRd
  have hlg : (1 : Int) ≤ (r2.size : Int) := by omega
  go_enter Tryz.func49, Tryz.ntmps49
  go_wp2_with fail
  refine (unhide HAL _).mono ?_
  rintro e w1 ⟨rfl, rfl⟩
  go_upto_region 1 with fail
  go_cut [33] from 17 to 33 (fun c wx => c = .bool false ∧ wx = w1.alloc (.cells #[.int .i64 2, .string ⟨#[]⟩, .bool q, .int .i64 0, .bool false, .slice none 0 0] 37))
  case first =>
    by_cases h1 : 1 < ts.size
    · have h1i : (1 : Int) < (ts.size : Int) := by omega
      have h0 : 0 < ts.size := by omega
      cases e35 : ((ts[0].toNat : Int) == 35) with
      | true =>
        have hgl := hide ((unhide HG).symm.trans (lenB_is h1 e35))
        have hx := hide (ext_list ts 1)
        have hxs : (ts.extract 1 ts.size).size ≤ 100000 := by rw [ByteArray.size_extract]; omega
        have hwr : IntKind.i64.wrap ((ts.size : Int) - 1) = (ts.size : Int) - 1 := by rw [IntKind.wrap_i64]; omega
        go_wp2_with fail
        refine (unhide HP _ _ hxs).mono ?_
        rintro e w1 ⟨rfl, rfl⟩
        rw [unhide hx]
        go_wp2
        go_meet
        exact ⟨congrArg Value.bool (by rw [← List.drop_one]; exact (unhide hgl).symm), rfl⟩
      | false =>
        have hgl := (unhide HG).symm.trans (lenB_no h0 e35)
        first
        | exact Bool.noConfusion hgl
        | (go_wp2
           go_meet
           exact ⟨rfl, rfl⟩)
    · have h1i : ¬ (1 : Int) < (ts.size : Int) := by omega
      have hgl := (unhide HG).symm.trans (lenB_short h1)
      first
      | exact Bool.noConfusion hgl
      | (go_wp2
         go_meet
         exact ⟨rfl, rfl⟩)
  case rest =>
    obtain ⟨rfl, rfl⟩ := hcut
    go_wp2_with fail
    refine (unhide HP _ _ hs1).mono ?_
    rintro e w2 ⟨rfl, rfl⟩
    rw [hn]
    go_upto_region 10 with fail
    rw [← unhide HRS, ← unhide HTS]
    go_upto_if 62 with fail
    go_cut [1] from 60 to 65 (fun s wx => s = .string r2 ∧ wx = w1.alloc (.cells #[.int .i64 2, .string tx, .bool q, .int .i64 0, .bool false, .slice none 0 0] 37))
    case first =>
      have hri : (1 : Int) ≤ (rs.size : Int) := by omega
      cases e58 : ((rs[0].toNat : Int) == 58) with
      | true =>
        have hc1 : false = true := (unhide HCOL).trans e58
        have hx : rs.extract 1 rs.size = r2 := by
          have h1 : colonL rs.data.toList = true := (head_i hr0 58 (by omega)).trans e58
          rw [unhide HR2, extract_end]
          unfold behindL
          rw [if_pos h1]
        have HX := hide hx
        have HC := hide hc1
        clear hx hc1
        go_wp2
        go_meet
        exact ⟨congrArg Value.string (unhide HX), by first | rfl | exact Bool.noConfusion (unhide HC) | rw [unhide HC]⟩
      | false =>
        have hc1 : false = false := (unhide HCOL).trans e58
        have hx : rs = r2 := by
          have h1 : ¬ colonL rs.data.toList = true := by rw [show colonL rs.data.toList = _ from head_i hr0 58 (by omega)]; rw [show ((58 : Nat) : Int) = 58 from rfl, e58]; simp
          rw [unhide HR2]
          unfold behindL
          rw [if_neg h1, BA_of]
        have HX := hide hx
        have HC := hide hc1
        clear hx hc1
        go_wp2
        go_meet
        exact ⟨congrArg Value.string (unhide HX), by first | rfl | exact Bool.noConfusion (unhide HC) | rw [unhide HC]⟩
    case rest =>
      obtain ⟨rfl, rfl⟩ := hcut
      go_upto_region 18 with fail
      go_cut [9] from 70 to 78 (fun x wx => x = .bool tw ∧ wx = w1.alloc (.cells #[.int .i64 2, .string tx, .bool q, .int .i64 0, .bool false, .slice none 0 0] 37))
      case first =>
        by_cases h1 : 1 < r2.size
        · have h1i : (1 : Int) < (r2.size : Int) := by omega
          have htwd : Hid (tw = (((r2[1]'h1).toNat : Int) == (c.toNat : Int))) := hide (by
            have e1 : r2.data.toList[1]'(by rw [data_len]; exact h1) = r2[1]'h1 := rfl
            rw [unhide HTW]
            revert e1
            have hl := unhide HC2
            have hlen : r2.data.toList.length = r2.size := data_len r2
            cases t with
            | nil => rw [hl] at hlen; simp at hlen; omega
            | cons d t =>
              intro e1
              have e2 : r2.data.toList[1]? = some (r2[1]'h1) := by rw [← e1]; exact List.getElem?_eq_getElem _
              rw [hl] at e2 ⊢
              simp at e2
              rw [← e2]
              rfl)
          go_wp2
          go_meet
          exact ⟨by first | rfl | exact Bool.noConfusion (unhide htwd) | rw [unhide htwd], rfl⟩
        · have h1i : ¬ (1 : Int) < (r2.size : Int) := by omega
          have htwd : Hid (tw = false) := hide ((unhide HTW).trans (by
            have hl := unhide HC2
            have hlen : r2.data.toList.length = r2.size := data_len r2
            cases t with
            | nil => rw [hl]; rfl
            | cons d t => rw [hl] at hlen; simp at hlen; omega))
          go_wp2
          go_meet
          exact ⟨by first | rfl | exact Bool.noConfusion (unhide htwd) | rw [unhide htwd], rfl⟩
      case rest =>
        obtain ⟨rfl, rfl⟩ := hcut
        by_cases hk2 : 2 ≤ k
        · have hk2i : (2 : Int) ≤ (k : Int) := by omega
          have hw : withinW k 5 = 3 := by unfold withinW; rw [if_neg (by unfold sngW; simp; omega)]; rfl
          rw [hw] at HRD
          go_wp2_with fail
          rw [unhide HT]
          refine (unhide HRD _).mono ?_
          cases R with
          | err x =>
            rintro e w2 ⟨rfl, hx, b2⟩
            obtain ⟨hcc, hff⟩ := bcell b2
            have hsz : w1.heap.size < w2.heap.size := by have := b2.size; simp at this; omega
            obtain ⟨c1, f1, hadd⟩ := rbr_add (v := .slice none 0 0) (qs := []) tx q false 5 x (unhide HH) (unhide HB0 _) (by simp) b2 (wat_nil _ _ _ _) (by have := (unhide HR).1; omega) (by have := (unhide HR).2; omega)
            have HADD := hide hadd
            have HX := hide hx
            clear hadd hx b2
            go_wp2_with fail
            refine (unhide HADD).mono ?_
            rintro e w3 ⟨rfl, hR⟩
            have HRR := hide hR
            clear hR
            go_wp2
            first | refine bodyPost_end (res0 rfl _ _) rfl ?_ | refine bodyPost_ret (res0 rfl _ _) rfl ?_
            exact ⟨rfl, unhide HX, _, unhide HRR⟩
          | ok qs =>
            rintro e w2 ⟨v, rfl, b2, hv⟩
            obtain ⟨hcc, hff⟩ := bcell b2
            have hsz : w1.heap.size < w2.heap.size := by have := b2.size; simp at this; omega
            obtain ⟨c1, f1, hadd⟩ := rbr_add tx q false 5 0 (unhide HH) (unhide HB0 _) (by simp) b2 hv (by have := (unhide HR).1; omega) (by have := (unhide HR).2; omega)
            obtain ⟨ad, cap, rfl, hql⟩ := hv.len
            have HADD := hide hadd
            clear hadd b2 hv
            go_wp2_with fail
            refine (unhide HADD).mono ?_
            rintro e w3 ⟨rfl, hR⟩
            have HRR := hide hR
            clear hR
            go_wp2
            first | refine bodyPost_end (res0 rfl _ _) rfl ?_ | refine bodyPost_ret (res0 rfl _ _) rfl ?_
            rw [unhide HTX] at HRR
            exact ⟨rfl, unhide HRR⟩
        · have hk2i : ¬ (2 : Int) ≤ (k : Int) := by omega
          have hw : withinW k 5 = 1 := by unfold withinW; rw [if_pos (by unfold sngW; simp; omega)]
          rw [hw] at HRD
          go_wp2_with fail
          rw [unhide HT]
          refine (unhide HRD _).mono ?_
          cases R with
          | err x =>
            rintro e w2 ⟨rfl, hx, b2⟩
            obtain ⟨hcc, hff⟩ := bcell b2
            have hsz : w1.heap.size < w2.heap.size := by have := b2.size; simp at this; omega
            obtain ⟨c1, f1, hadd⟩ := rbr_add (v := .slice none 0 0) (qs := []) tx q false 5 x (unhide HH) (unhide HB0 _) (by simp) b2 (wat_nil _ _ _ _) (by have := (unhide HR).1; omega) (by have := (unhide HR).2; omega)
            have HADD := hide hadd
            have HX := hide hx
            clear hadd hx b2
            go_wp2_with fail
            refine (unhide HADD).mono ?_
            rintro e w3 ⟨rfl, hR⟩
            have HRR := hide hR
            clear hR
            go_wp2
            first | refine bodyPost_end (res0 rfl _ _) rfl ?_ | refine bodyPost_ret (res0 rfl _ _) rfl ?_
            exact ⟨rfl, unhide HX, _, unhide HRR⟩
          | ok qs =>
            rintro e w2 ⟨v, rfl, b2, hv⟩
            obtain ⟨hcc, hff⟩ := bcell b2
            have hsz : w1.heap.size < w2.heap.size := by have := b2.size; simp at this; omega
            obtain ⟨c1, f1, hadd⟩ := rbr_add tx q false 5 0 (unhide HH) (unhide HB0 _) (by simp) b2 hv (by have := (unhide HR).1; omega) (by have := (unhide HR).2; omega)
            obtain ⟨ad, cap, rfl, hql⟩ := hv.len
            have HADD := hide hadd
            clear hadd b2 hv
            go_wp2_with fail
            refine (unhide HADD).mono ?_
            rintro e w3 ⟨rfl, hR⟩
            have HRR := hide hR
            clear hR
            go_wp2
            first | refine bodyPost_end (res0 rfl _ _) rfl ?_ | refine bodyPost_ret (res0 rfl _ _) rfl ?_
            rw [unhide HTX] at HRR
            exact ⟨rfl, unhide HRR⟩
set_option maxRecDepth 20000 in
set_option maxHeartbeats 8000000 in
theorem rbr_ok5t (k : Nat) (ts : ByteArray) (w : World) (b : Nat) (X : Nat → Prop) (ps : List Prt) (q : Bool) (hk : k < 6) (hq : allW k = q) (hs : ts.size ≤ 4096) (h : RWt w b X ps 0) (hr : Room ps (ts.size + 1)) (hg : lenB ts.data.toList = false) (n : Nat) (hn : parN ts.data.toList = n) (h0 : n ≠ 0) (hnl : n < ts.size)  (hcl : colonL (ts.data.toList.drop n) = true) (l2 : List UInt8) (hl2 : behindL (ts.data.toList.drop n) = l2) (r2 : ByteArray) (hr2 : r2 = BA l2) (hr2s : r2.size ≤ 4096) (c : UInt8) (t : List UInt8) (hz : l2 = c :: t) (tw : Bool) (htw : twB l2 = tw) (e45 : ((c.toNat : Int) == 45) = false) (e61 : ((c.toNat : Int) == 61) = false) (e63 : ((c.toNat : Int) == 63) = false) (e43 : ((c.toNat : Int) == 43) = true) (t2 : List UInt8) (ht2 : r2.extract 1 r2.size = BA t2) (R : Rd) (hRd : ∀ W, Calls Tryz.prog 19 #[.string (BA t2), .int .i64 ((withinW k 5 : Nat) : Int)] W fun e w' => WEnd R W e w') :
    Calls Tryz.prog 49 #[.pointer (some ⟨b, 0, none⟩), .string ts, .int .i64 (k : Int)] w fun e w' => RBrEnd q (bdOf (ts.data.toList.take n) 5 true R) w b X ps e w' := by
  have HP : Hid (∀ (u : ByteArray) W, u.size ≤ 100000 → Calls Tryz.prog 65 #[.string u] W fun e w' => e = .returned (.int .i64 (parN u.data.toList : Int)) ∧ w' = W) := hide (fun u W hu => rparam_any u W hu)
  have HB0 : Hid (∀ o, Below w.heap.size w (w.alloc o)) := hide (fun o => (Below.refl _ w).alloc (Nat.le_refl _) _)
  have hbw := h.lt
  have HH := hide h
  have HR := hide hr
  have HG := hide hg
  have HAL := hide (fun W => rallw_any k W hk)
  rw [hq] at HAL
  have hce : ∀ o, (w.alloc o).cell? ⟨b, 1, none⟩ = some (.int .i64 0) := fun o => ((h.below (unhide HB0 o)).err 0).1
  have hfe : ∀ o, (w.alloc o).frozen? ⟨b, 1, none⟩ = false := fun o => ((h.below (unhide HB0 o)).err 0).2.1
  have HER : Hid (∀ o, RAdds w b X ps 10 ((w.setCell ⟨b, 1, none⟩ (.int .i64 10)).alloc o)) := hide (fun o => (h.err 10).2.2.below ((Below.refl _ _).alloc (Nat.le_refl _) _))
  have HA : Hid (∀ w1 (t : ByteArray) (o : Int), t.size ≤ ts.size → Below w.heap.size w w1 → Calls Tryz.prog 28 #[.pointer (some ⟨b, 0, none⟩), .agg #[.int .i64 2, .string t, .bool q, .int .i64 o, .bool false, .slice none 0 0]] w1 fun e w' => e = .returned (.tuple #[]) ∧ RAdds w b X (addP ps (.mk 2 t.data.toList q o false [])) 0 w') := hide (fun w1 t o ht hb =>
    (rplain_add w1 b X ps 0 2 t q o false (h.below hb) ⟨by have := hr.1; omega, by have := hr.2; omega⟩).mono (fun e w' ⟨h1, h3⟩ => ⟨h1, h3.of_below hb⟩))
  clear h hr hg hq
  have hs1 : ts.size ≤ 100000 := by omega
  have hn0 : ((n : Int) == 0) = false := by rw [beq_eq_false_iff_ne]; omega
  have hni : (n : Int) ≤ (ts.size : Int) := by omega
  obtain ⟨rs, hrs⟩ : ∃ x, x = ts.extract n ts.size := ⟨_, rfl⟩
  obtain ⟨tx, htx⟩ : ∃ x, x = ts.extract 0 n := ⟨_, rfl⟩
  have hrl : rs.data.toList = ts.data.toList.drop n := by rw [hrs, ext_list]
  have HTX : Hid (tx.data.toList = ts.data.toList.take n) := hide (by rw [htx, ext_to])
  have htxs : tx.size ≤ ts.size := by rw [htx, ByteArray.size_extract]; omega
  rw [← hrl] at hcl hl2
  have hrsz : rs.size = ts.size - n := by rw [← data_len, hrl, List.length_drop, data_len]
  have hr0 : 0 < rs.size := by omega
  have hem : rs.toList.isEmpty = false := nonempty_of hr0
  have hcol : colonL rs.data.toList = ((rs[0].toNat : Int) == 58) := head_i hr0 58 (by omega)
  have HR2 : Hid (r2 = BA (behindL rs.data.toList)) := hide (by rw [hl2, hr2])
  have HCOL := hide (hcl.symm.trans hcol)
  have hr4 : rs.size ≤ 4096 := by omega
  have HRS := hide hrs
  have HTS := hide htx
  have HL2 := hide hr2
  clear hrl hcol hrs htx hrsz hcl hl2 hr2 h0
  have hz0 : 0 < r2.size := by rw [unhide HL2, hz]; simp
  have hne : r2.toList.isEmpty = false := nonempty_of hz0
  have hr2l : r2.data.toList = c :: t := by rw [unhide HL2, hz, BA_list]
  have hc0 : r2[0]'hz0 = c := by
    have := head_get hz0
    rw [hr2l] at this
    injection this with h1 _
    exact h1.symm
  have HTW : Hid (tw = twB r2.data.toList) := hide (by rw [hr2l, ← hz, htw])
  have HC2 := hide hr2l
  clear hz htw hr2l
  have HT := hide ht2
  have HRD := hide hRd
  clear ht2 hRd
  have hlg : (1 : Int) ≤ (r2.size : Int) := by omega
  go_enter Tryz.func49, Tryz.ntmps49
  go_wp2_with fail
  refine (unhide HAL _).mono ?_
  rintro e w1 ⟨rfl, rfl⟩
  go_upto_region 1 with fail
  go_cut [33] from 17 to 33 (fun c wx => c = .bool false ∧ wx = w1.alloc (.cells #[.int .i64 2, .string ⟨#[]⟩, .bool q, .int .i64 0, .bool false, .slice none 0 0] 37))
  case first =>
    by_cases h1 : 1 < ts.size
    · have h1i : (1 : Int) < (ts.size : Int) := by omega
      have h0 : 0 < ts.size := by omega
      cases e35 : ((ts[0].toNat : Int) == 35) with
      | true =>
        have hgl := hide ((unhide HG).symm.trans (lenB_is h1 e35))
        have hx := hide (ext_list ts 1)
        have hxs : (ts.extract 1 ts.size).size ≤ 100000 := by rw [ByteArray.size_extract]; omega
        have hwr : IntKind.i64.wrap ((ts.size : Int) - 1) = (ts.size : Int) - 1 := by rw [IntKind.wrap_i64]; omega
        go_wp2_with fail
        refine (unhide HP _ _ hxs).mono ?_
        rintro e w1 ⟨rfl, rfl⟩
        rw [unhide hx]
        go_wp2
        go_meet
        exact ⟨congrArg Value.bool (by rw [← List.drop_one]; exact (unhide hgl).symm), rfl⟩
      | false =>
        have hgl := (unhide HG).symm.trans (lenB_no h0 e35)
        first
        | exact Bool.noConfusion hgl
        | (go_wp2
           go_meet
           exact ⟨rfl, rfl⟩)
    · have h1i : ¬ (1 : Int) < (ts.size : Int) := by omega
      have hgl := (unhide HG).symm.trans (lenB_short h1)
      first
      | exact Bool.noConfusion hgl
      | (go_wp2
         go_meet
         exact ⟨rfl, rfl⟩)
  case rest =>
    obtain ⟨rfl, rfl⟩ := hcut
    go_wp2_with fail
    refine (unhide HP _ _ hs1).mono ?_
    rintro e w2 ⟨rfl, rfl⟩
    rw [hn]
    go_upto_region 10 with fail
    rw [← unhide HRS, ← unhide HTS]
    go_upto_if 62 with fail
    go_cut [1] from 60 to 65 (fun s wx => s = .string r2 ∧ wx = w1.alloc (.cells #[.int .i64 2, .string tx, .bool q, .int .i64 0, .bool true, .slice none 0 0] 37))
    case first =>
      have hri : (1 : Int) ≤ (rs.size : Int) := by omega
      cases e58 : ((rs[0].toNat : Int) == 58) with
      | true =>
        have hc1 : true = true := (unhide HCOL).trans e58
        have hx : rs.extract 1 rs.size = r2 := by
          have h1 : colonL rs.data.toList = true := (head_i hr0 58 (by omega)).trans e58
          rw [unhide HR2, extract_end]
          unfold behindL
          rw [if_pos h1]
        have HX := hide hx
        have HC := hide hc1
        clear hx hc1
        go_wp2
        go_meet
        exact ⟨congrArg Value.string (unhide HX), by first | rfl | exact Bool.noConfusion (unhide HC) | rw [unhide HC]⟩
      | false =>
        have hc1 : true = false := (unhide HCOL).trans e58
        have hx : rs = r2 := by
          have h1 : ¬ colonL rs.data.toList = true := by rw [show colonL rs.data.toList = _ from head_i hr0 58 (by omega)]; rw [show ((58 : Nat) : Int) = 58 from rfl, e58]; simp
          rw [unhide HR2]
          unfold behindL
          rw [if_neg h1, BA_of]
        have HX := hide hx
        have HC := hide hc1
        clear hx hc1
        go_wp2
        go_meet
        exact ⟨congrArg Value.string (unhide HX), by first | rfl | exact Bool.noConfusion (unhide HC) | rw [unhide HC]⟩
    case rest =>
      obtain ⟨rfl, rfl⟩ := hcut
      go_upto_region 18 with fail
      go_cut [9] from 70 to 78 (fun x wx => x = .bool tw ∧ wx = w1.alloc (.cells #[.int .i64 2, .string tx, .bool q, .int .i64 0, .bool true, .slice none 0 0] 37))
      case first =>
        by_cases h1 : 1 < r2.size
        · have h1i : (1 : Int) < (r2.size : Int) := by omega
          have htwd : Hid (tw = (((r2[1]'h1).toNat : Int) == (c.toNat : Int))) := hide (by
            have e1 : r2.data.toList[1]'(by rw [data_len]; exact h1) = r2[1]'h1 := rfl
            rw [unhide HTW]
            revert e1
            have hl := unhide HC2
            have hlen : r2.data.toList.length = r2.size := data_len r2
            cases t with
            | nil => rw [hl] at hlen; simp at hlen; omega
            | cons d t =>
              intro e1
              have e2 : r2.data.toList[1]? = some (r2[1]'h1) := by rw [← e1]; exact List.getElem?_eq_getElem _
              rw [hl] at e2 ⊢
              simp at e2
              rw [← e2]
              rfl)
          go_wp2
          go_meet
          exact ⟨by first | rfl | exact Bool.noConfusion (unhide htwd) | rw [unhide htwd], rfl⟩
        · have h1i : ¬ (1 : Int) < (r2.size : Int) := by omega
          have htwd : Hid (tw = false) := hide ((unhide HTW).trans (by
            have hl := unhide HC2
            have hlen : r2.data.toList.length = r2.size := data_len r2
            cases t with
            | nil => rw [hl]; rfl
            | cons d t => rw [hl] at hlen; simp at hlen; omega))
          go_wp2
          go_meet
          exact ⟨by first | rfl | exact Bool.noConfusion (unhide htwd) | rw [unhide htwd], rfl⟩
      case rest =>
        obtain ⟨rfl, rfl⟩ := hcut
        by_cases hk2 : 2 ≤ k
        · have hk2i : (2 : Int) ≤ (k : Int) := by omega
          have hw : withinW k 5 = 3 := by unfold withinW; rw [if_neg (by unfold sngW; simp; omega)]; rfl
          rw [hw] at HRD
          go_wp2_with fail
          rw [unhide HT]
          refine (unhide HRD _).mono ?_
          cases R with
          | err x =>
            rintro e w2 ⟨rfl, hx, b2⟩
            obtain ⟨hcc, hff⟩ := bcell b2
            have hsz : w1.heap.size < w2.heap.size := by have := b2.size; simp at this; omega
            obtain ⟨c1, f1, hadd⟩ := rbr_add (v := .slice none 0 0) (qs := []) tx q true 5 x (unhide HH) (unhide HB0 _) (by simp) b2 (wat_nil _ _ _ _) (by have := (unhide HR).1; omega) (by have := (unhide HR).2; omega)
            have HADD := hide hadd
            have HX := hide hx
            clear hadd hx b2
            go_wp2_with fail
            refine (unhide HADD).mono ?_
            rintro e w3 ⟨rfl, hR⟩
            have HRR := hide hR
            clear hR
            go_wp2
            first | refine bodyPost_end (res0 rfl _ _) rfl ?_ | refine bodyPost_ret (res0 rfl _ _) rfl ?_
            exact ⟨rfl, unhide HX, _, unhide HRR⟩
          | ok qs =>
            rintro e w2 ⟨v, rfl, b2, hv⟩
            obtain ⟨hcc, hff⟩ := bcell b2
            have hsz : w1.heap.size < w2.heap.size := by have := b2.size; simp at this; omega
            obtain ⟨c1, f1, hadd⟩ := rbr_add tx q true 5 0 (unhide HH) (unhide HB0 _) (by simp) b2 hv (by have := (unhide HR).1; omega) (by have := (unhide HR).2; omega)
            obtain ⟨ad, cap, rfl, hql⟩ := hv.len
            have HADD := hide hadd
            clear hadd b2 hv
            go_wp2_with fail
            refine (unhide HADD).mono ?_
            rintro e w3 ⟨rfl, hR⟩
            have HRR := hide hR
            clear hR
            go_wp2
            first | refine bodyPost_end (res0 rfl _ _) rfl ?_ | refine bodyPost_ret (res0 rfl _ _) rfl ?_
            rw [unhide HTX] at HRR
            exact ⟨rfl, unhide HRR⟩
        · have hk2i : ¬ (2 : Int) ≤ (k : Int) := by omega
          have hw : withinW k 5 = 1 := by unfold withinW; rw [if_pos (by unfold sngW; simp; omega)]
          rw [hw] at HRD
          go_wp2_with fail
          rw [unhide HT]
          refine (unhide HRD _).mono ?_
          cases R with
          | err x =>
            rintro e w2 ⟨rfl, hx, b2⟩
            obtain ⟨hcc, hff⟩ := bcell b2
            have hsz : w1.heap.size < w2.heap.size := by have := b2.size; simp at this; omega
            obtain ⟨c1, f1, hadd⟩ := rbr_add (v := .slice none 0 0) (qs := []) tx q true 5 x (unhide HH) (unhide HB0 _) (by simp) b2 (wat_nil _ _ _ _) (by have := (unhide HR).1; omega) (by have := (unhide HR).2; omega)
            have HADD := hide hadd
            have HX := hide hx
            clear hadd hx b2
            go_wp2_with fail
            refine (unhide HADD).mono ?_
            rintro e w3 ⟨rfl, hR⟩
            have HRR := hide hR
            clear hR
            go_wp2
            first | refine bodyPost_end (res0 rfl _ _) rfl ?_ | refine bodyPost_ret (res0 rfl _ _) rfl ?_
            exact ⟨rfl, unhide HX, _, unhide HRR⟩
          | ok qs =>
            rintro e w2 ⟨v, rfl, b2, hv⟩
            obtain ⟨hcc, hff⟩ := bcell b2
            have hsz : w1.heap.size < w2.heap.size := by have := b2.size; simp at this; omega
            obtain ⟨c1, f1, hadd⟩ := rbr_add tx q true 5 0 (unhide HH) (unhide HB0 _) (by simp) b2 hv (by have := (unhide HR).1; omega) (by have := (unhide HR).2; omega)
            obtain ⟨ad, cap, rfl, hql⟩ := hv.len
            have HADD := hide hadd
            clear hadd b2 hv
            go_wp2_with fail
            refine (unhide HADD).mono ?_
            rintro e w3 ⟨rfl, hR⟩
            have HRR := hide hR
            clear hR
            go_wp2
            first | refine bodyPost_end (res0 rfl _ _) rfl ?_ | refine bodyPost_ret (res0 rfl _ _) rfl ?_
            rw [unhide HTX] at HRR
            exact ⟨rfl, unhide HRR⟩
end Go.Proofs.YtnamfjbfcbamjaaGreatDoor
namespace Go.Proofs.YtnamfjbfcbamjaaGreatDoor
open Go.RowKit
theorem brc_sg {rd : Nat → List UInt8 → Rd} {k : Nat} {l : List UInt8} {n : Nat} {cl : Bool} {l2 t : List UInt8} {op : Int} (h : lenB l = false) (hn : parN l = n) (h0 : n ≠ 0) (h1 : n ≠ l.length) (hcl : colonL (l.drop n) = cl) (hl2 : behindL (l.drop n) = l2) (hsg : sgnL cl l2 = some (op, t)) : brcL rd k l = bdOf (l.take n) op cl (rd (withinW k op) t).word := by
  subst hn hcl hl2
  rw [brc_sgn h h0 h1, hsg]
  cases hR : (rd (withinW k op) t).word <;> simp only [hR, bdOf]
theorem brc_sn {rd : Nat → List UInt8 → Rd} {k : Nat} {l : List UInt8} {n : Nat} {cl : Bool} {l2 : List UInt8} (h : lenB l = false) (hn : parN l = n) (h0 : n ≠ 0) (h1 : n ≠ l.length) (hcl : colonL (l.drop n) = cl) (hl2 : behindL (l.drop n) = l2) (hsg : sgnL cl l2 = none) : brcL rd k l = .err 10 := by
  subst hn hcl hl2
  rw [brc_sgn h h0 h1, hsg]
theorem byte_no {c : UInt8} {n : Nat} (hn : n < 256) (h : c ≠ UInt8.ofNat n) : ((c.toNat : Int) == (n : Int)) = false := by
  rw [← byte_is c n hn]
  simpa using h
theorem ext_lg (l : List UInt8) (n : Nat) : (BA l).extract n (BA l).size = BA (l.drop n) := by
  have := extract_end (BA l) n
  rw [BA_list] at this
  exact this
theorem rbrace_any {N : Nat} (hW : RWordN N) (k : Nat) (ts : ByteArray) (w : World) (b : Nat) (X : Nat → Prop) (ps : List Prt) (hk : k < 6) (hN : ts.size ≤ N) (hs : ts.size ≤ 4096) (h : RWt w b X ps 0) (hr : Room ps (ts.size + 1)) :
    Calls Tryz.prog 49 #[.pointer (some ⟨b, 0, none⟩), .string ts, .int .i64 (k : Int)] w fun e w' => RBrEnd (allW k) (brcL (rdC false) k ts.data.toList) w b X ps e w' := by
  cases hg : lenB ts.data.toList with
  | true => rw [brc_of hg]; exact rbr_len k ts w b X ps _ hk rfl hs h hr hg
  | false =>
    obtain ⟨n, hn⟩ : ∃ n, parN ts.data.toList = n := ⟨_, rfl⟩
    by_cases h0 : n = 0
    · subst h0
      rw [brc_no hg hn]
      exact rbr_no k ts w b X ps _ hk rfl hs h hr hg hn
    by_cases h1 : n = ts.size
    · rw [brc_whole hg (by rw [hn]; exact h0) (by rw [hn, data_len]; exact h1)]
      exact rbr_whole k ts w b X ps _ hk rfl hs h hr hg n hn h0 h1
    have h1' : n ≠ ts.data.toList.length := by rw [data_len]; exact h1
    have hle : n ≤ ts.size := by have := par_le ts.data.toList; rw [hn, data_len] at this; exact this
    have hnl : n < ts.size := by omega
    obtain ⟨cl, hcl⟩ : ∃ x, colonL (ts.data.toList.drop n) = x := ⟨_, rfl⟩
    obtain ⟨l2, hl2⟩ : ∃ x, behindL (ts.data.toList.drop n) = x := ⟨_, rfl⟩
    have hlen : l2.length ≤ ts.size := by
      have := behind_len (ts.data.toList.drop n)
      rw [hl2, List.length_drop, data_len] at this
      omega
    have hbs : (BA l2).size ≤ 4096 := by rw [BA_size]; omega
    have hRd : ∀ (op : Int) (t : List UInt8), t.length ≤ l2.length → ∀ W, Calls Tryz.prog 19 #[.string (BA t), .int .i64 ((withinW k op : Nat) : Int)] W fun e w' => WEnd (rdC false (withinW k op) t).word W e w' := fun op t ht W => hW (withinW k op) t W (within_lt k op) (by omega) (by omega)
    cases l2 with
    | nil =>
      rw [brc_sn hg hn h0 h1' hcl hl2 (by cases cl <;> rfl)]
      exact rbr_e0 k ts w b X ps _ hk rfl hs h hr hg n hn h0 hnl cl hcl [] hl2 _ rfl hbs rfl
    | cons c t =>
      have hx1 : (BA (c :: t)).extract 1 (BA (c :: t)).size = BA t := ext_lg (c :: t) 1
      have hRt := fun op => hRd op t (by simp)
      by_cases h45 : c = 45
      · subst h45
        rw [brc_sg (op := 2) (t := t) hg hn h0 h1' hcl hl2 (by cases cl <;> rfl)]
        cases cl with
        | false => exact rbr_ok2f k ts w b X ps _ hk rfl hs h hr hg n hn h0 hnl hcl _ hl2 _ rfl hbs _ t rfl _ rfl rfl t hx1 _ (hRt 2)
        | true => exact rbr_ok2t k ts w b X ps _ hk rfl hs h hr hg n hn h0 hnl hcl _ hl2 _ rfl hbs _ t rfl _ rfl rfl t hx1 _ (hRt 2)
      have e45 : ((c.toNat : Int) == 45) = false := byte_no (n := 45) (by omega) h45
      by_cases h61 : c = 61
      · subst h61
        rw [brc_sg (op := 3) (t := t) hg hn h0 h1' hcl hl2 (by cases cl <;> rfl)]
        cases cl with
        | false => exact rbr_ok3f k ts w b X ps _ hk rfl hs h hr hg n hn h0 hnl hcl _ hl2 _ rfl hbs _ t rfl _ rfl e45 rfl t hx1 _ (hRt 3)
        | true => exact rbr_ok3t k ts w b X ps _ hk rfl hs h hr hg n hn h0 hnl hcl _ hl2 _ rfl hbs _ t rfl _ rfl e45 rfl t hx1 _ (hRt 3)
      have e61 : ((c.toNat : Int) == 61) = false := byte_no (n := 61) (by omega) h61
      by_cases h63 : c = 63
      · subst h63
        rw [brc_sg (op := 4) (t := t) hg hn h0 h1' hcl hl2 (by cases cl <;> rfl)]
        cases cl with
        | false => exact rbr_ok4f k ts w b X ps _ hk rfl hs h hr hg n hn h0 hnl hcl _ hl2 _ rfl hbs _ t rfl _ rfl e45 e61 rfl t hx1 _ (hRt 4)
        | true => exact rbr_ok4t k ts w b X ps _ hk rfl hs h hr hg n hn h0 hnl hcl _ hl2 _ rfl hbs _ t rfl _ rfl e45 e61 rfl t hx1 _ (hRt 4)
      have e63 : ((c.toNat : Int) == 63) = false := byte_no (n := 63) (by omega) h63
      by_cases h43 : c = 43
      · subst h43
        rw [brc_sg (op := 5) (t := t) hg hn h0 h1' hcl hl2 (by cases cl <;> rfl)]
        cases cl with
        | false => exact rbr_ok5f k ts w b X ps _ hk rfl hs h hr hg n hn h0 hnl hcl _ hl2 _ rfl hbs _ t rfl _ rfl e45 e61 e63 rfl t hx1 _ (hRt 5)
        | true => exact rbr_ok5t k ts w b X ps _ hk rfl hs h hr hg n hn h0 hnl hcl _ hl2 _ rfl hbs _ t rfl _ rfl e45 e61 e63 rfl t hx1 _ (hRt 5)
      have e43 : ((c.toNat : Int) == 43) = false := byte_no (n := 43) (by omega) h43
      by_cases h35 : c = 35
      · subst h35
        cases cl with
        | true =>
          rw [brc_sn hg hn h0 h1' hcl hl2 (by unfold sgnL; split <;> simp_all)]
          exact rbr_e2_35 k ts w b X ps _ hk rfl hs h hr hg n hn h0 hnl hcl _ hl2 _ rfl hbs _ t rfl _ rfl e45 e61 e63 e43 rfl
        | false =>
          cases htw : twB (35 :: t) with
          | true =>
            match t, htw with
            | d :: t', htw =>
              have hd : d = 35 := UInt8.toNat_inj.1 (by have : ((d.toNat : Int) == ((35 : UInt8).toNat : Int)) = true := htw; simp only [beq_iff_eq] at this; omega)
              subst hd
              rw [brc_sg (op := 7) (t := t') hg hn h0 h1' hcl hl2 rfl]
              exact rbr_ok7f k ts w b X ps _ hk rfl hs h hr hg n hn h0 hnl hcl _ hl2 _ rfl hbs _ _ rfl htw e45 e61 e63 e43 rfl t' (ext_lg (35 :: 35 :: t') 2) _ (hRd 7 t' (by simp; omega))
          | false =>
            rw [brc_sg (op := 6) (t := t) hg hn h0 h1' hcl hl2 (by
              unfold sgnL
              split <;> simp_all [twB])]
            exact rbr_ok6f k ts w b X ps _ hk rfl hs h hr hg n hn h0 hnl hcl _ hl2 _ rfl hbs _ t rfl htw e45 e61 e63 e43 rfl t hx1 _ (hRt 6)
      have e35 : ((c.toNat : Int) == 35) = false := byte_no (n := 35) (by omega) h35
      by_cases h37 : c = 37
      · subst h37
        cases cl with
        | true =>
          rw [brc_sn hg hn h0 h1' hcl hl2 (by unfold sgnL; split <;> simp_all)]
          exact rbr_e2_37 k ts w b X ps _ hk rfl hs h hr hg n hn h0 hnl hcl _ hl2 _ rfl hbs _ t rfl _ rfl e45 e61 e63 e43 e35 rfl
        | false =>
          cases htw : twB (37 :: t) with
          | true =>
            match t, htw with
            | d :: t', htw =>
              have hd : d = 37 := UInt8.toNat_inj.1 (by have : ((d.toNat : Int) == ((37 : UInt8).toNat : Int)) = true := htw; simp only [beq_iff_eq] at this; omega)
              subst hd
              rw [brc_sg (op := 9) (t := t') hg hn h0 h1' hcl hl2 rfl]
              exact rbr_ok9f k ts w b X ps _ hk rfl hs h hr hg n hn h0 hnl hcl _ hl2 _ rfl hbs _ _ rfl htw e45 e61 e63 e43 e35 rfl t' (ext_lg (37 :: 37 :: t') 2) _ (hRd 9 t' (by simp; omega))
          | false =>
            rw [brc_sg (op := 8) (t := t) hg hn h0 h1' hcl hl2 (by
              unfold sgnL
              split <;> simp_all [twB])]
            exact rbr_ok8f k ts w b X ps _ hk rfl hs h hr hg n hn h0 hnl hcl _ hl2 _ rfl hbs _ t rfl htw e45 e61 e63 e43 e35 rfl t hx1 _ (hRt 8)
      have e37 : ((c.toNat : Int) == 37) = false := byte_no (n := 37) (by omega) h37
      rw [brc_sn hg hn h0 h1' hcl hl2 (by unfold sgnL; split <;> simp_all)]
      exact rbr_e1 k ts w b X ps _ hk rfl hs h hr hg n hn h0 hnl cl hcl _ hl2 _ rfl hbs c t rfl _ rfl e45 e61 e63 e43 e35 e37
end Go.Proofs.YtnamfjbfcbamjaaGreatDoor

/-
  The document's reader: brace, with a sign (RWBr3).
-/
import Derived.Test.YtnamfjbfcbamjaaGreatDoorP31
namespace Go.Proofs.YtnamfjbfcbamjaaGreatDoor
open Go.RowKit
set_option maxRecDepth 20000 in
set_option maxHeartbeats 8000000 in
theorem rbr_ok3f (k : Nat) (ts : ByteArray) (w : World) (b : Nat) (X : Nat → Prop) (ps : List Prt) (q : Bool) (hk : k < 6) (hq : allW k = q) (hs : ts.size ≤ 4096) (h : RWt w b X ps 0) (hr : Room ps (ts.size + 1)) (hg : lenB ts.data.toList = false) (n : Nat) (hn : parN ts.data.toList = n) (h0 : n ≠ 0) (hnl : n < ts.size)  (hcl : colonL (ts.data.toList.drop n) = false) (l2 : List UInt8) (hl2 : behindL (ts.data.toList.drop n) = l2) (r2 : ByteArray) (hr2 : r2 = BA l2) (hr2s : r2.size ≤ 4096) (c : UInt8) (t : List UInt8) (hz : l2 = c :: t) (tw : Bool) (htw : twB l2 = tw) (e45 : ((c.toNat : Int) == 45) = false) (e61 : ((c.toNat : Int) == 61) = true) (t2 : List UInt8) (ht2 : r2.extract 1 r2.size = BA t2) (R : Rd) (hRd : ∀ W, Calls Tryz.prog 19 #[.string (BA t2), .int .i64 ((withinW k 3 : Nat) : Int)] W fun e w' => WEnd R W e w') :
    Calls Tryz.prog 49 #[.pointer (some ⟨b, 0, none⟩), .string ts, .int .i64 (k : Int)] w fun e w' => RBrEnd q (bdOf (ts.data.toList.take n) 3 false R) w b X ps e w' := by
  have HP : Hid (∀ (u : ByteArray) W, u.size ≤ 100000 → Calls Tryz.prog 65 #[.string u] W fun e w' => e = .returned (.int .i64 (parN u.data.toList : Int)) ∧ w' = W) := hide (fun u W hu => rparam_any u W hu)
  have HB0 : Hid (∀ o, Below w.heap.size w (w.alloc o)) := hide (fun o => (Below.refl _ w).alloc (Nat.le_refl _) _)
  have hbw := h.lt
  have HH := hide h
  have HR := hide hr
  have HG := hide hg
  have HAL := hide (fun W => rallw_any k W hk)
  rw [hq] at HAL
  have hce : ∀ o, (w.alloc o).cell? ⟨b, 1, none⟩ = some (.int .i64 0) := fun o => ((h.below (unhide HB0 o)).err 0).1
  have hfe : ∀ o, (w.alloc o).frozen? ⟨b, 1, none⟩ = false := fun o => ((h.below (unhide HB0 o)).err 0).2.1
  have HER : Hid (∀ o, RAdds w b X ps 10 ((w.setCell ⟨b, 1, none⟩ (.int .i64 10)).alloc o)) := hide (fun o => (h.err 10).2.2.below ((Below.refl _ _).alloc (Nat.le_refl _) _))
  have HA : Hid (∀ w1 (t : ByteArray) (o : Int), t.size ≤ ts.size → Below w.heap.size w w1 → Calls Tryz.prog 28 #[.pointer (some ⟨b, 0, none⟩), .agg #[.int .i64 2, .string t, .bool q, .int .i64 o, .bool false, .slice none 0 0]] w1 fun e w' => e = .returned (.tuple #[]) ∧ RAdds w b X (addP ps (.mk 2 t.data.toList q o false [])) 0 w') := hide (fun w1 t o ht hb =>
    (rplain_add w1 b X ps 0 2 t q o false (h.below hb) ⟨by have := hr.1; omega, by have := hr.2; omega⟩).mono (fun e w' ⟨h1, h3⟩ => ⟨h1, h3.of_below hb⟩))
  clear h hr hg hq
  have hs1 : ts.size ≤ 100000 := by omega
  have hn0 : ((n : Int) == 0) = false := by rw [beq_eq_false_iff_ne]; omega
  have hni : (n : Int) ≤ (ts.size : Int) := by omega
  obtain ⟨rs, hrs⟩ : ∃ x, x = ts.extract n ts.size := ⟨_, rfl⟩
  obtain ⟨tx, htx⟩ : ∃ x, x = ts.extract 0 n := ⟨_, rfl⟩
  have hrl : rs.data.toList = ts.data.toList.drop n := by rw [hrs, ext_list]
  have HTX : Hid (tx.data.toList = ts.data.toList.take n) := hide (by rw [htx, ext_to])
  have htxs : tx.size ≤ ts.size := by rw [htx, ByteArray.size_extract]; omega
  rw [← hrl] at hcl hl2
  have hrsz : rs.size = ts.size - n := by rw [← data_len, hrl, List.length_drop, data_len]
  have hr0 : 0 < rs.size := by omega
  have hem : rs.toList.isEmpty = false := nonempty_of hr0
  have hcol : colonL rs.data.toList = ((rs[0].toNat : Int) == 58) := head_i hr0 58 (by omega)
  have HR2 : Hid (r2 = BA (behindL rs.data.toList)) := hide (by rw [hl2, hr2])
  have HCOL := hide (hcl.symm.trans hcol)
  have hr4 : rs.size ≤ 4096 := by omega
  have HRS := hide hrs
  have HTS := hide htx
  have HL2 := hide hr2
  clear hrl hcol hrs htx hrsz hcl hl2 hr2 h0
  have hz0 : 0 < r2.size := by rw [unhide HL2, hz]; simp
  have hne : r2.toList.isEmpty = false := nonempty_of hz0
  have hr2l : r2.data.toList = c :: t := by rw [unhide HL2, hz, BA_list]
  have hc0 : r2[0]'hz0 = c := by
    have := head_get hz0
    rw [hr2l] at this
    injection this with h1 _
    exact h1.symm
  have HTW : Hid (tw = twB r2.data.toList) := hide (by rw [hr2l, ← hz, htw])
  have HC2 := hide hr2l
  clear hz htw hr2l
  have HT := hide ht2
  have HRD := hide hRd
  clear ht2 hRd
  have hlg : (1 : Int) ≤ (r2.size : Int) := by omega
  go_enter Tryz.func49, Tryz.ntmps49
  go_wp2_with fail
  refine (unhide HAL _).mono ?_
  rintro e w1 ⟨rfl, rfl⟩
  go_upto_region 1 with fail
  go_cut [33] from 17 to 33 (fun c wx => c = .bool false ∧ wx = w1.alloc (.cells #[.int .i64 2, .string ⟨#[]⟩, .bool q, .int .i64 0, .bool false, .slice none 0 0] 37))
  case first =>
    by_cases h1 : 1 < ts.size
    · have h1i : (1 : Int) < (ts.size : Int) := by omega
      have h0 : 0 < ts.size := by omega
      cases e35 : ((ts[0].toNat : Int) == 35) with
      | true =>
        have hgl := hide ((unhide HG).symm.trans (lenB_is h1 e35))
        have hx := hide (ext_list ts 1)
        have hxs : (ts.extract 1 ts.size).size ≤ 100000 := by rw [ByteArray.size_extract]; omega
        have hwr : IntKind.i64.wrap ((ts.size : Int) - 1) = (ts.size : Int) - 1 := by rw [IntKind.wrap_i64]; omega
        go_wp2_with fail
        refine (unhide HP _ _ hxs).mono ?_
        rintro e w1 ⟨rfl, rfl⟩
        rw [unhide hx]
        go_wp2
        go_meet
        exact ⟨congrArg Value.bool (by rw [← List.drop_one]; exact (unhide hgl).symm), rfl⟩
      | false =>
        have hgl := (unhide HG).symm.trans (lenB_no h0 e35)
        first
        | exact Bool.noConfusion hgl
        | (go_wp2
           go_meet
           exact ⟨rfl, rfl⟩)
    · have h1i : ¬ (1 : Int) < (ts.size : Int) := by omega
      have hgl := (unhide HG).symm.trans (lenB_short h1)
      first
      | exact Bool.noConfusion hgl
      | (go_wp2
         go_meet
         exact ⟨rfl, rfl⟩)
  case rest =>
    obtain ⟨rfl, rfl⟩ := hcut
    go_wp2_with fail
    refine (unhide HP _ _ hs1).mono ?_
    rintro e w2 ⟨rfl, rfl⟩
    rw [hn]
    go_upto_region 10 with fail
    rw [← unhide HRS, ← unhide HTS]
    go_upto_if 62 with fail
    go_cut [1] from 60 to 65 (fun s wx => s = .string r2 ∧ wx = w1.alloc (.cells #[.int .i64 2, .string tx, .bool q, .int .i64 0, .bool false, .slice none 0 0] 37))
    case first =>
      have hri : (1 : Int) ≤ (rs.size : Int) := by omega
      cases e58 : ((rs[0].toNat : Int) == 58) with
      | true =>
        have hc1 : false = true := (unhide HCOL).trans e58
        have hx : rs.extract 1 rs.size = r2 := by
          have h1 : colonL rs.data.toList = true := (head_i hr0 58 (by omega)).trans e58
          rw [unhide HR2, extract_end]
          unfold behindL
          rw [if_pos h1]
        have HX := hide hx
        have HC := hide hc1
        clear hx hc1
        go_wp2
        go_meet
        exact ⟨congrArg Value.string (unhide HX), by first | rfl | exact Bool.noConfusion (unhide HC) | rw [unhide HC]⟩
      | false =>
        have hc1 : false = false := (unhide HCOL).trans e58
        have hx : rs = r2 := by
          have h1 : ¬ colonL rs.data.toList = true := by rw [show colonL rs.data.toList = _ from head_i hr0 58 (by omega)]; rw [show ((58 : Nat) : Int) = 58 from rfl, e58]; simp
          rw [unhide HR2]
          unfold behindL
          rw [if_neg h1, BA_of]
        have HX := hide hx
        have HC := hide hc1
        clear hx hc1
        go_wp2
        go_meet
        exact ⟨congrArg Value.string (unhide HX), by first | rfl | exact Bool.noConfusion (unhide HC) | rw [unhide HC]⟩
    case rest =>
      obtain ⟨rfl, rfl⟩ := hcut
      go_upto_region 18 with fail
      go_cut [9] from 70 to 78 (fun x wx => x = .bool tw ∧ wx = w1.alloc (.cells #[.int .i64 2, .string tx, .bool q, .int .i64 0, .bool false, .slice none 0 0] 37))
      case first =>
        by_cases h1 : 1 < r2.size
        · have h1i : (1 : Int) < (r2.size : Int) := by omega
          have htwd : Hid (tw = (((r2[1]'h1).toNat : Int) == (c.toNat : Int))) := hide (by
            have e1 : r2.data.toList[1]'(by rw [data_len]; exact h1) = r2[1]'h1 := rfl
            rw [unhide HTW]
            revert e1
            have hl := unhide HC2
            have hlen : r2.data.toList.length = r2.size := data_len r2
            cases t with
            | nil => rw [hl] at hlen; simp at hlen; omega
            | cons d t =>
              intro e1
              have e2 : r2.data.toList[1]? = some (r2[1]'h1) := by rw [← e1]; exact List.getElem?_eq_getElem _
              rw [hl] at e2 ⊢
              simp at e2
              rw [← e2]
              rfl)
          go_wp2
          go_meet
          exact ⟨by first | rfl | exact Bool.noConfusion (unhide htwd) | rw [unhide htwd], rfl⟩
        · have h1i : ¬ (1 : Int) < (r2.size : Int) := by omega
          have htwd : Hid (tw = false) := hide ((unhide HTW).trans (by
            have hl := unhide HC2
            have hlen : r2.data.toList.length = r2.size := data_len r2
            cases t with
            | nil => rw [hl]; rfl
            | cons d t => rw [hl] at hlen; simp at hlen; omega))
          go_wp2
          go_meet
          exact ⟨by first | rfl | exact Bool.noConfusion (unhide htwd) | rw [unhide htwd], rfl⟩
      case rest =>
        obtain ⟨rfl, rfl⟩ := hcut
        by_cases hk2 : 2 ≤ k
        · have hk2i : (2 : Int) ≤ (k : Int) := by omega
          have hw : withinW k 3 = 3 := by unfold withinW; rw [if_neg (by unfold sngW; simp; omega)]; rfl
          rw [hw] at HRD
          go_wp2_with fail
          rw [unhide HT]
          refine (unhide HRD _).mono ?_
          cases R with
          | err x =>
            rintro e w2 ⟨rfl, hx, b2⟩
            obtain ⟨hcc, hff⟩ := bcell b2
            have hsz : w1.heap.size < w2.heap.size := by have := b2.size; simp at this; omega
            obtain ⟨c1, f1, hadd⟩ := rbr_add (v := .slice none 0 0) (qs := []) tx q false 3 x (unhide HH) (unhide HB0 _) (by simp) b2 (wat_nil _ _ _ _) (by have := (unhide HR).1; omega) (by have := (unhide HR).2; omega)
            have HADD := hide hadd
            have HX := hide hx
            clear hadd hx b2
            go_wp2_with fail
            refine (unhide HADD).mono ?_
            rintro e w3 ⟨rfl, hR⟩
            have HRR := hide hR
            clear hR
            go_wp2
            first | refine bodyPost_end (res0 rfl _ _) rfl ?_ | refine bodyPost_ret (res0 rfl _ _) rfl ?_
            exact ⟨rfl, unhide HX, _, unhide HRR⟩
          | ok qs =>
            rintro e w2 ⟨v, rfl, b2, hv⟩
            obtain ⟨hcc, hff⟩ := bcell b2
            have hsz : w1.heap.size < w2.heap.size := by have := b2.size; simp at this; omega
            obtain ⟨c1, f1, hadd⟩ := rbr_add tx q false 3 0 (unhide HH) (unhide HB0 _) (by simp) b2 hv (by have := (unhide HR).1; omega) (by have := (unhide HR).2; omega)
            obtain ⟨ad, cap, rfl, hql⟩ := hv.len
            have HADD := hide hadd
            clear hadd b2 hv
            go_wp2_with fail
            refine (unhide HADD).mono ?_
            rintro e w3 ⟨rfl, hR⟩
            have HRR := hide hR
            clear hR
            go_wp2
            first | refine bodyPost_end (res0 rfl _ _) rfl ?_ | refine bodyPost_ret (res0 rfl _ _) rfl ?_
            rw [unhide HTX] at HRR
            exact ⟨rfl, unhide HRR⟩
        · have hk2i : ¬ (2 : Int) ≤ (k : Int) := by omega
          have hw : withinW k 3 = 1 := by unfold withinW; rw [if_pos (by unfold sngW; simp; omega)]
          rw [hw] at HRD
          go_wp2_with fail
          rw [unhide HT]
          refine (unhide HRD _).mono ?_
          cases R with
          | err x =>
            rintro e w2 ⟨rfl, hx, b2⟩
            obtain ⟨hcc, hff⟩ := bcell b2
            have hsz : w1.heap.size < w2.heap.size := by have := b2.size; simp at this; omega
            obtain ⟨c1, f1, hadd⟩ := rbr_add (v := .slice none 0 0) (qs := []) tx q false 3 x (unhide HH) (unhide HB0 _) (by simp) b2 (wat_nil _ _ _ _) (by have := (unhide HR).1; omega) (by have := (unhide HR).2; omega)
            have HADD := hide hadd
            have HX := hide hx
            clear hadd hx b2
            go_wp2_with fail
            refine (unhide HADD).mono ?_
            rintro e w3 ⟨rfl, hR⟩
            have HRR := hide hR
            clear hR
            go_wp2
            first | refine bodyPost_end (res0 rfl _ _) rfl ?_ | refine bodyPost_ret (res0 rfl _ _) rfl ?_
            exact ⟨rfl, unhide HX, _, unhide HRR⟩
          | ok qs =>
            rintro e w2 ⟨v, rfl, b2, hv⟩
            obtain ⟨hcc, hff⟩ := bcell b2
            have hsz : w1.heap.size < w2.heap.size := by have := b2.size; simp at this; omega
            obtain ⟨c1, f1, hadd⟩ := rbr_add tx q false 3 0 (unhide HH) (unhide HB0 _) (by simp) b2 hv (by have := (unhide HR).1; omega) (by have := (unhide HR).2; omega)
            obtain ⟨ad, cap, rfl, hql⟩ := hv.len
            have HADD := hide hadd
            clear hadd b2 hv
            go_wp2_with fail
            refine (unhide HADD).mono ?_
            rintro e w3 ⟨rfl, hR⟩
            have HRR := hide hR
            clear hR
            go_wp2
            first | refine bodyPost_end (res0 rfl _ _) rfl ?_ | refine bodyPost_ret (res0 rfl _ _) rfl ?_
            rw [unhide HTX] at HRR
            exact ⟨rfl, unhide HRR⟩
set_option maxRecDepth 20000 in
set_option maxHeartbeats 8000000 in
theorem rbr_ok3t (k : Nat) (ts : ByteArray) (w : World) (b : Nat) (X : Nat → Prop) (ps : List Prt) (q : Bool) (hk : k < 6) (hq : allW k = q) (hs : ts.size ≤ 4096) (h : RWt w b X ps 0) (hr : Room ps (ts.size + 1)) (hg : lenB ts.data.toList = false) (n : Nat) (hn : parN ts.data.toList = n) (h0 : n ≠ 0) (hnl : n < ts.size)  (hcl : colonL (ts.data.toList.drop n) = true) (l2 : List UInt8) (hl2 : behindL (ts.data.toList.drop n) = l2) (r2 : ByteArray) (hr2 : r2 = BA l2) (hr2s : r2.size ≤ 4096) (c : UInt8) (t : List UInt8) (hz : l2 = c :: t) (tw : Bool) (htw : twB l2 = tw) (e45 : ((c.toNat : Int) == 45) = false) (e61 : ((c.toNat : Int) == 61) = true) (t2 : List UInt8) (ht2 : r2.extract 1 r2.size = BA t2) (R : Rd) (hRd : ∀ W, Calls Tryz.prog 19 #[.string (BA t2), .int .i64 ((withinW k 3 : Nat) : Int)] W fun e w' => WEnd R W e w') :
    Calls Tryz.prog 49 #[.pointer (some ⟨b, 0, none⟩), .string ts, .int .i64 (k : Int)] w fun e w' => RBrEnd q (bdOf (ts.data.toList.take n) 3 true R) w b X ps e w' := by
  have HP : Hid (∀ (u : ByteArray) W, u.size ≤ 100000 → Calls Tryz.prog 65 #[.string u] W fun e w' => e = .returned (.int .i64 (parN u.data.toList : Int)) ∧ w' = W) := hide (fun u W hu => rparam_any u W hu)
  have HB0 : Hid (∀ o, Below w.heap.size w (w.alloc o)) := hide (fun o => (Below.refl _ w).alloc (Nat.le_refl _) _)
  have hbw := h.lt
  have HH := hide h
  have HR := hide hr
  have HG := hide hg
  have HAL := hide (fun W => rallw_any k W hk)
  rw [hq] at HAL
  have hce : ∀ o, (w.alloc o).cell? ⟨b, 1, none⟩ = some (.int .i64 0) := fun o => ((h.below (unhide HB0 o)).err 0).1
  have hfe : ∀ o, (w.alloc o).frozen? ⟨b, 1, none⟩ = false := fun o => ((h.below (unhide HB0 o)).err 0).2.1
  have HER : Hid (∀ o, RAdds w b X ps 10 ((w.setCell ⟨b, 1, none⟩ (.int .i64 10)).alloc o)) := hide (fun o => (h.err 10).2.2.below ((Below.refl _ _).alloc (Nat.le_refl _) _))
  have HA : Hid (∀ w1 (t : ByteArray) (o : Int), t.size ≤ ts.size → Below w.heap.size w w1 → Calls Tryz.prog 28 #[.pointer (some ⟨b, 0, none⟩), .agg #[.int .i64 2, .string t, .bool q, .int .i64 o, .bool false, .slice none 0 0]] w1 fun e w' => e = .returned (.tuple #[]) ∧ RAdds w b X (addP ps (.mk 2 t.data.toList q o false [])) 0 w') := hide (fun w1 t o ht hb =>
    (rplain_add w1 b X ps 0 2 t q o false (h.below hb) ⟨by have := hr.1; omega, by have := hr.2; omega⟩).mono (fun e w' ⟨h1, h3⟩ => ⟨h1, h3.of_below hb⟩))
  clear h hr hg hq
  have hs1 : ts.size ≤ 100000 := by omega
  have hn0 : ((n : Int) == 0) = false := by rw [beq_eq_false_iff_ne]; omega
  have hni : (n : Int) ≤ (ts.size : Int) := by omega
  obtain ⟨rs, hrs⟩ : ∃ x, x = ts.extract n ts.size := ⟨_, rfl⟩
  obtain ⟨tx, htx⟩ : ∃ x, x = ts.extract 0 n := ⟨_, rfl⟩
  have hrl : rs.data.toList = ts.data.toList.drop n := by rw [hrs, ext_list]
  have HTX : Hid (tx.data.toList = ts.data.toList.take n) := hide (by rw [htx, ext_to])
  have htxs : tx.size ≤ ts.size := by rw [htx, ByteArray.size_extract]; omega
  rw [← hrl] at hcl hl2
  have hrsz : rs.size = ts.size - n := by rw [← data_len, hrl, List.length_drop, data_len]
  have hr0 : 0 < rs.size := by omega
  have hem : rs.toList.isEmpty = false := nonempty_of hr0
  have hcol : colonL rs.data.toList = ((rs[0].toNat : Int) == 58) := head_i hr0 58 (by omega)
  have HR2 : Hid (r2 = BA (behindL rs.data.toList)) := hide (by rw [hl2, hr2])
  have HCOL := hide (hcl.symm.trans hcol)
  have hr4 : rs.size ≤ 4096 := by omega
  have HRS := hide hrs
  have HTS := hide htx
  have HL2 := hide hr2
  clear hrl hcol hrs htx hrsz hcl hl2 hr2 h0
  have hz0 : 0 < r2.size := by rw [unhide HL2, hz]; simp
  have hne : r2.toList.isEmpty = false := nonempty_of hz0
  have hr2l : r2.data.toList = c :: t := by rw [unhide HL2, hz, BA_list]
  have hc0 : r2[0]'hz0 = c := by
    have := head_get hz0
    rw [hr2l] at this
    injection this with h1 _
    exact h1.symm
  have HTW : Hid (tw = twB r2.data.toList) := hide (by rw [hr2l, ← hz, htw])
  have HC2 := hide hr2l
  clear hz htw hr2l
  have HT := hide ht2
  have HRD := hide hRd
  clear ht2 hRd
  have hlg : (1 : Int) ≤ (r2.size : Int) := by omega
  go_enter Tryz.func49, Tryz.ntmps49
  go_wp2_with fail
  refine (unhide HAL _).mono ?_
  rintro e w1 ⟨rfl, rfl⟩
  go_upto_region 1 with fail
  go_cut [33] from 17 to 33 (fun c wx => c = .bool false ∧ wx = w1.alloc (.cells #[.int .i64 2, .string ⟨#[]⟩, .bool q, .int .i64 0, .bool false, .slice none 0 0] 37))
  case first =>
    by_cases h1 : 1 < ts.size
    · have h1i : (1 : Int) < (ts.size : Int) := by omega
      have h0 : 0 < ts.size := by omega
      cases e35 : ((ts[0].toNat : Int) == 35) with
      | true =>
        have hgl := hide ((unhide HG).symm.trans (lenB_is h1 e35))
        have hx := hide (ext_list ts 1)
        have hxs : (ts.extract 1 ts.size).size ≤ 100000 := by rw [ByteArray.size_extract]; omega
        have hwr : IntKind.i64.wrap ((ts.size : Int) - 1) = (ts.size : Int) - 1 := by rw [IntKind.wrap_i64]; omega
        go_wp2_with fail
        refine (unhide HP _ _ hxs).mono ?_
        rintro e w1 ⟨rfl, rfl⟩
        rw [unhide hx]
        go_wp2
        go_meet
        exact ⟨congrArg Value.bool (by rw [← List.drop_one]; exact (unhide hgl).symm), rfl⟩
      | false =>
        have hgl := (unhide HG).symm.trans (lenB_no h0 e35)
        first
        | exact Bool.noConfusion hgl
        | (go_wp2
           go_meet
           exact ⟨rfl, rfl⟩)
    · have h1i : ¬ (1 : Int) < (ts.size : Int) := by omega
      have hgl := (unhide HG).symm.trans (lenB_short h1)
      first
      | exact Bool.noConfusion hgl
      | (go_wp2
         go_meet
         exact ⟨rfl, rfl⟩)
  case rest =>
    obtain ⟨rfl, rfl⟩ := hcut
    go_wp2_with fail
    refine (unhide HP _ _ hs1).mono ?_
    rintro e w2 ⟨rfl, rfl⟩
    rw [hn]
    go_upto_region 10 with fail
    rw [← unhide HRS, ← unhide HTS]
    go_upto_if 62 with fail
    go_cut [1] from 60 to 65 (fun s wx => s = .string r2 ∧ wx = w1.alloc (.cells #[.int .i64 2, .string tx, .bool q, .int .i64 0, .bool true, .slice none 0 0] 37))
    case first =>
      have hri : (1 : Int) ≤ (rs.size : Int) := by omega
      cases e58 : ((rs[0].toNat : Int) == 58) with
      | true =>
        have hc1 : true = true := (unhide HCOL).trans e58
        have hx : rs.extract 1 rs.size = r2 := by
          have h1 : colonL rs.data.toList = true := (head_i hr0 58 (by omega)).trans e58
          rw [unhide HR2, extract_end]
          unfold behindL
          rw [if_pos h1]
        have HX := hide hx
        have HC := hide hc1
        clear hx hc1
        go_wp2
        go_meet
        exact ⟨congrArg Value.string (unhide HX), by first | rfl | exact Bool.noConfusion (unhide HC) | rw [unhide HC]⟩
      | false =>
        have hc1 : true = false := (unhide HCOL).trans e58
        have hx : rs = r2 := by
          have h1 : ¬ colonL rs.data.toList = true := by rw [show colonL rs.data.toList = _ from head_i hr0 58 (by omega)]; rw [show ((58 : Nat) : Int) = 58 from rfl, e58]; simp
          rw [unhide HR2]
          unfold behindL
          rw [if_neg h1, BA_of]
        have HX := hide hx
        have HC := hide hc1
        clear hx hc1
        go_wp2
        go_meet
        exact ⟨congrArg Value.string (unhide HX), by first | rfl | exact Bool.noConfusion (unhide HC) | rw [unhide HC]⟩
    case rest =>
      obtain ⟨rfl, rfl⟩ := hcut
      go_upto_region 18 with fail
      go_cut [9] from 70 to 78 (fun x wx => x = .bool tw ∧ wx = w1.alloc (.cells #[.int .i64 2, .string tx, .bool q, .int .i64 0, .bool true, .slice none 0 0] 37))
      case first =>
        by_cases h1 : 1 < r2.size
        · have h1i : (1 : Int) < (r2.size : Int) := by omega
          have htwd : Hid (tw = (((r2[1]'h1).toNat : Int) == (c.toNat : Int))) := hide (by
            have e1 : r2.data.toList[1]'(by rw [data_len]; exact h1) = r2[1]'h1 := rfl
            rw [unhide HTW]
            revert e1
            have hl := unhide HC2
            have hlen : r2.data.toList.length = r2.size := data_len r2
            cases t with
            | nil => rw [hl] at hlen; simp at hlen; omega
            | cons d t =>
              intro e1
              have e2 : r2.data.toList[1]? = some (r2[1]'h1) := by rw [← e1]; exact List.getElem?_eq_getElem _
              rw [hl] at e2 ⊢
              simp at e2
              rw [← e2]
              rfl)
          go_wp2
          go_meet
          exact ⟨by first | rfl | exact Bool.noConfusion (unhide htwd) | rw [unhide htwd], rfl⟩
        · have h1i : ¬ (1 : Int) < (r2.size : Int) := by omega
          have htwd : Hid (tw = false) := hide ((unhide HTW).trans (by
            have hl := unhide HC2
            have hlen : r2.data.toList.length = r2.size := data_len r2
            cases t with
            | nil => rw [hl]; rfl
            | cons d t => rw [hl] at hlen; simp at hlen; omega))
          go_wp2
          go_meet
          exact ⟨by first | rfl | exact Bool.noConfusion (unhide htwd) | rw [unhide htwd], rfl⟩
      case rest =>
        obtain ⟨rfl, rfl⟩ := hcut
        by_cases hk2 : 2 ≤ k
        · have hk2i : (2 : Int) ≤ (k : Int) := by omega
          have hw : withinW k 3 = 3 := by unfold withinW; rw [if_neg (by unfold sngW; simp; omega)]; rfl
          rw [hw] at HRD
          go_wp2_with fail
          rw [unhide HT]
          refine (unhide HRD _).mono ?_
          cases R with
          | err x =>
            rintro e w2 ⟨rfl, hx, b2⟩
            obtain ⟨hcc, hff⟩ := bcell b2
            have hsz : w1.heap.size < w2.heap.size := by have := b2.size; simp at this; omega
            obtain ⟨c1, f1, hadd⟩ := rbr_add (v := .slice none 0 0) (qs := []) tx q true 3 x (unhide HH) (unhide HB0 _) (by simp) b2 (wat_nil _ _ _ _) (by have := (unhide HR).1; omega) (by have := (unhide HR).2; omega)
            have HADD := hide hadd
            have HX := hide hx
            clear hadd hx b2
            go_wp2_with fail
            refine (unhide HADD).mono ?_
            rintro e w3 ⟨rfl, hR⟩
            have HRR := hide hR
            clear hR
            go_wp2
            first | refine bodyPost_end (res0 rfl _ _) rfl ?_ | refine bodyPost_ret (res0 rfl _ _) rfl ?_
            exact ⟨rfl, unhide HX, _, unhide HRR⟩
          | ok qs =>
            rintro e w2 ⟨v, rfl, b2, hv⟩
            obtain ⟨hcc, hff⟩ := bcell b2
            have hsz : w1.heap.size < w2.heap.size := by have := b2.size; simp at this; omega
            obtain ⟨c1, f1, hadd⟩ := rbr_add tx q true 3 0 (unhide HH) (unhide HB0 _) (by simp) b2 hv (by have := (unhide HR).1; omega) (by have := (unhide HR).2; omega)
            obtain ⟨ad, cap, rfl, hql⟩ := hv.len
            have HADD := hide hadd
            clear hadd b2 hv
            go_wp2_with fail
            refine (unhide HADD).mono ?_
            rintro e w3 ⟨rfl, hR⟩
            have HRR := hide hR
            clear hR
            go_wp2
            first | refine bodyPost_end (res0 rfl _ _) rfl ?_ | refine bodyPost_ret (res0 rfl _ _) rfl ?_
            rw [unhide HTX] at HRR
            exact ⟨rfl, unhide HRR⟩
        · have hk2i : ¬ (2 : Int) ≤ (k : Int) := by omega
          have hw : withinW k 3 = 1 := by unfold withinW; rw [if_pos (by unfold sngW; simp; omega)]
          rw [hw] at HRD
          go_wp2_with fail
          rw [unhide HT]
          refine (unhide HRD _).mono ?_
          cases R with
          | err x =>
            rintro e w2 ⟨rfl, hx, b2⟩
            obtain ⟨hcc, hff⟩ := bcell b2
            have hsz : w1.heap.size < w2.heap.size := by have := b2.size; simp at this; omega
            obtain ⟨c1, f1, hadd⟩ := rbr_add (v := .slice none 0 0) (qs := []) tx q true 3 x (unhide HH) (unhide HB0 _) (by simp) b2 (wat_nil _ _ _ _) (by have := (unhide HR).1; omega) (by have := (unhide HR).2; omega)
            have HADD := hide hadd
            have HX := hide hx
            clear hadd hx b2
            go_wp2_with fail
            refine (unhide HADD).mono ?_
            rintro e w3 ⟨rfl, hR⟩
            have HRR := hide hR
            clear hR
            go_wp2
            first | refine bodyPost_end (res0 rfl _ _) rfl ?_ | refine bodyPost_ret (res0 rfl _ _) rfl ?_
            exact ⟨rfl, unhide HX, _, unhide HRR⟩
          | ok qs =>
            rintro e w2 ⟨v, rfl, b2, hv⟩
            obtain ⟨hcc, hff⟩ := bcell b2
            have hsz : w1.heap.size < w2.heap.size := by have := b2.size; simp at this; omega
            obtain ⟨c1, f1, hadd⟩ := rbr_add tx q true 3 0 (unhide HH) (unhide HB0 _) (by simp) b2 hv (by have := (unhide HR).1; omega) (by have := (unhide HR).2; omega)
            obtain ⟨ad, cap, rfl, hql⟩ := hv.len
            have HADD := hide hadd
            clear hadd b2 hv
            go_wp2_with fail
            refine (unhide HADD).mono ?_
            rintro e w3 ⟨rfl, hR⟩
            have HRR := hide hR
            clear hR
            go_wp2
            first | refine bodyPost_end (res0 rfl _ _) rfl ?_ | refine bodyPost_ret (res0 rfl _ _) rfl ?_
            rw [unhide HTX] at HRR
            exact ⟨rfl, unhide HRR⟩
set_option maxRecDepth 20000 in
set_option maxHeartbeats 8000000 in
theorem rbr_ok6f (k : Nat) (ts : ByteArray) (w : World) (b : Nat) (X : Nat → Prop) (ps : List Prt) (q : Bool) (hk : k < 6) (hq : allW k = q) (hs : ts.size ≤ 4096) (h : RWt w b X ps 0) (hr : Room ps (ts.size + 1)) (hg : lenB ts.data.toList = false) (n : Nat) (hn : parN ts.data.toList = n) (h0 : n ≠ 0) (hnl : n < ts.size)  (hcl : colonL (ts.data.toList.drop n) = false) (l2 : List UInt8) (hl2 : behindL (ts.data.toList.drop n) = l2) (r2 : ByteArray) (hr2 : r2 = BA l2) (hr2s : r2.size ≤ 4096) (c : UInt8) (t : List UInt8) (hz : l2 = c :: t)  (htw : twB l2 = false) (e45 : ((c.toNat : Int) == 45) = false) (e61 : ((c.toNat : Int) == 61) = false) (e63 : ((c.toNat : Int) == 63) = false) (e43 : ((c.toNat : Int) == 43) = false) (e35 : ((c.toNat : Int) == 35) = true) (t2 : List UInt8) (ht2 : r2.extract 1 r2.size = BA t2) (R : Rd) (hRd : ∀ W, Calls Tryz.prog 19 #[.string (BA t2), .int .i64 ((withinW k 6 : Nat) : Int)] W fun e w' => WEnd R W e w') :
    Calls Tryz.prog 49 #[.pointer (some ⟨b, 0, none⟩), .string ts, .int .i64 (k : Int)] w fun e w' => RBrEnd q (bdOf (ts.data.toList.take n) 6 false R) w b X ps e w' := by
  have HP : Hid (∀ (u : ByteArray) W, u.size ≤ 100000 → Calls Tryz.prog 65 #[.string u] W fun e w' => e = .returned (.int .i64 (parN u.data.toList : Int)) ∧ w' = W) := hide (fun u W hu => rparam_any u W hu)
  have HB0 : Hid (∀ o, Below w.heap.size w (w.alloc o)) := hide (fun o => (Below.refl _ w).alloc (Nat.le_refl _) _)
  have hbw := h.lt
  have HH := hide h
  have HR := hide hr
  have HG := hide hg
  have HAL := hide (fun W => rallw_any k W hk)
  rw [hq] at HAL
  have hce : ∀ o, (w.alloc o).cell? ⟨b, 1, none⟩ = some (.int .i64 0) := fun o => ((h.below (unhide HB0 o)).err 0).1
  have hfe : ∀ o, (w.alloc o).frozen? ⟨b, 1, none⟩ = false := fun o => ((h.below (unhide HB0 o)).err 0).2.1
  have HER : Hid (∀ o, RAdds w b X ps 10 ((w.setCell ⟨b, 1, none⟩ (.int .i64 10)).alloc o)) := hide (fun o => (h.err 10).2.2.below ((Below.refl _ _).alloc (Nat.le_refl _) _))
  have HA : Hid (∀ w1 (t : ByteArray) (o : Int), t.size ≤ ts.size → Below w.heap.size w w1 → Calls Tryz.prog 28 #[.pointer (some ⟨b, 0, none⟩), .agg #[.int .i64 2, .string t, .bool q, .int .i64 o, .bool false, .slice none 0 0]] w1 fun e w' => e = .returned (.tuple #[]) ∧ RAdds w b X (addP ps (.mk 2 t.data.toList q o false [])) 0 w') := hide (fun w1 t o ht hb =>
    (rplain_add w1 b X ps 0 2 t q o false (h.below hb) ⟨by have := hr.1; omega, by have := hr.2; omega⟩).mono (fun e w' ⟨h1, h3⟩ => ⟨h1, h3.of_below hb⟩))
  clear h hr hg hq
  have hs1 : ts.size ≤ 100000 := by omega
  have hn0 : ((n : Int) == 0) = false := by rw [beq_eq_false_iff_ne]; omega
  have hni : (n : Int) ≤ (ts.size : Int) := by omega
  obtain ⟨rs, hrs⟩ : ∃ x, x = ts.extract n ts.size := ⟨_, rfl⟩
  obtain ⟨tx, htx⟩ : ∃ x, x = ts.extract 0 n := ⟨_, rfl⟩
  have hrl : rs.data.toList = ts.data.toList.drop n := by rw [hrs, ext_list]
  have HTX : Hid (tx.data.toList = ts.data.toList.take n) := hide (by rw [htx, ext_to])
  have htxs : tx.size ≤ ts.size := by rw [htx, ByteArray.size_extract]; omega
  rw [← hrl] at hcl hl2
  have hrsz : rs.size = ts.size - n := by rw [← data_len, hrl, List.length_drop, data_len]
  have hr0 : 0 < rs.size := by omega
  have hem : rs.toList.isEmpty = false := nonempty_of hr0
  have hcol : colonL rs.data.toList = ((rs[0].toNat : Int) == 58) := head_i hr0 58 (by omega)
  have HR2 : Hid (r2 = BA (behindL rs.data.toList)) := hide (by rw [hl2, hr2])
  have HCOL := hide (hcl.symm.trans hcol)
  have hr4 : rs.size ≤ 4096 := by omega
  have HRS := hide hrs
  have HTS := hide htx
  have HL2 := hide hr2
  clear hrl hcol hrs htx hrsz hcl hl2 hr2 h0
  have hz0 : 0 < r2.size := by rw [unhide HL2, hz]; simp
  have hne : r2.toList.isEmpty = false := nonempty_of hz0
  have hr2l : r2.data.toList = c :: t := by rw [unhide HL2, hz, BA_list]
  have hc0 : r2[0]'hz0 = c := by
    have := head_get hz0
    rw [hr2l] at this
    injection this with h1 _
    exact h1.symm
  have HTW : Hid (false = twB r2.data.toList) := hide (by rw [hr2l, ← hz, htw])
  have HC2 := hide hr2l
  clear hz htw hr2l
  have HT := hide ht2
  have HRD := hide hRd
  clear ht2 hRd
  have hlg : (1 : Int) ≤ (r2.size : Int) := by omega
  go_enter Tryz.func49, Tryz.ntmps49
  go_wp2_with fail
  refine (unhide HAL _).mono ?_
  rintro e w1 ⟨rfl, rfl⟩
  go_upto_region 1 with fail
  go_cut [33] from 17 to 33 (fun c wx => c = .bool false ∧ wx = w1.alloc (.cells #[.int .i64 2, .string ⟨#[]⟩, .bool q, .int .i64 0, .bool false, .slice none 0 0] 37))
  case first =>
    by_cases h1 : 1 < ts.size
    · have h1i : (1 : Int) < (ts.size : Int) := by omega
      have h0 : 0 < ts.size := by omega
      cases e35 : ((ts[0].toNat : Int) == 35) with
      | true =>
        have hgl := hide ((unhide HG).symm.trans (lenB_is h1 e35))
        have hx := hide (ext_list ts 1)
        have hxs : (ts.extract 1 ts.size).size ≤ 100000 := by rw [ByteArray.size_extract]; omega
        have hwr : IntKind.i64.wrap ((ts.size : Int) - 1) = (ts.size : Int) - 1 := by rw [IntKind.wrap_i64]; omega
        go_wp2_with fail
        refine (unhide HP _ _ hxs).mono ?_
        rintro e w1 ⟨rfl, rfl⟩
        rw [unhide hx]
        go_wp2
        go_meet
        exact ⟨congrArg Value.bool (by rw [← List.drop_one]; exact (unhide hgl).symm), rfl⟩
      | false =>
        have hgl := (unhide HG).symm.trans (lenB_no h0 e35)
        first
        | exact Bool.noConfusion hgl
        | (go_wp2
           go_meet
           exact ⟨rfl, rfl⟩)
    · have h1i : ¬ (1 : Int) < (ts.size : Int) := by omega
      have hgl := (unhide HG).symm.trans (lenB_short h1)
      first
      | exact Bool.noConfusion hgl
      | (go_wp2
         go_meet
         exact ⟨rfl, rfl⟩)
  case rest =>
    obtain ⟨rfl, rfl⟩ := hcut
    go_wp2_with fail
    refine (unhide HP _ _ hs1).mono ?_
    rintro e w2 ⟨rfl, rfl⟩
    rw [hn]
    go_upto_region 10 with fail
    rw [← unhide HRS, ← unhide HTS]
    go_upto_if 62 with fail
    go_cut [1] from 60 to 65 (fun s wx => s = .string r2 ∧ wx = w1.alloc (.cells #[.int .i64 2, .string tx, .bool q, .int .i64 0, .bool false, .slice none 0 0] 37))
    case first =>
      have hri : (1 : Int) ≤ (rs.size : Int) := by omega
      cases e58 : ((rs[0].toNat : Int) == 58) with
      | true =>
        have hc1 : false = true := (unhide HCOL).trans e58
        have hx : rs.extract 1 rs.size = r2 := by
          have h1 : colonL rs.data.toList = true := (head_i hr0 58 (by omega)).trans e58
          rw [unhide HR2, extract_end]
          unfold behindL
          rw [if_pos h1]
        have HX := hide hx
        have HC := hide hc1
        clear hx hc1
        go_wp2
        go_meet
        exact ⟨congrArg Value.string (unhide HX), by first | rfl | exact Bool.noConfusion (unhide HC) | rw [unhide HC]⟩
      | false =>
        have hc1 : false = false := (unhide HCOL).trans e58
        have hx : rs = r2 := by
          have h1 : ¬ colonL rs.data.toList = true := by rw [show colonL rs.data.toList = _ from head_i hr0 58 (by omega)]; rw [show ((58 : Nat) : Int) = 58 from rfl, e58]; simp
          rw [unhide HR2]
          unfold behindL
          rw [if_neg h1, BA_of]
        have HX := hide hx
        have HC := hide hc1
        clear hx hc1
        go_wp2
        go_meet
        exact ⟨congrArg Value.string (unhide HX), by first | rfl | exact Bool.noConfusion (unhide HC) | rw [unhide HC]⟩
    case rest =>
      obtain ⟨rfl, rfl⟩ := hcut
      go_upto_region 18 with fail
      go_cut [9] from 70 to 78 (fun x wx => x = .bool false ∧ wx = w1.alloc (.cells #[.int .i64 2, .string tx, .bool q, .int .i64 0, .bool false, .slice none 0 0] 37))
      case first =>
        by_cases h1 : 1 < r2.size
        · have h1i : (1 : Int) < (r2.size : Int) := by omega
          have htwd : Hid (false = (((r2[1]'h1).toNat : Int) == (c.toNat : Int))) := hide (by
            have e1 : r2.data.toList[1]'(by rw [data_len]; exact h1) = r2[1]'h1 := rfl
            rw [unhide HTW]
            revert e1
            have hl := unhide HC2
            have hlen : r2.data.toList.length = r2.size := data_len r2
            cases t with
            | nil => rw [hl] at hlen; simp at hlen; omega
            | cons d t =>
              intro e1
              have e2 : r2.data.toList[1]? = some (r2[1]'h1) := by rw [← e1]; exact List.getElem?_eq_getElem _
              rw [hl] at e2 ⊢
              simp at e2
              rw [← e2]
              rfl)
          go_wp2
          go_meet
          exact ⟨by first | rfl | exact Bool.noConfusion (unhide htwd) | rw [unhide htwd], rfl⟩
        · have h1i : ¬ (1 : Int) < (r2.size : Int) := by omega
          have htwd : Hid (false = false) := hide ((unhide HTW).trans (by
            have hl := unhide HC2
            have hlen : r2.data.toList.length = r2.size := data_len r2
            cases t with
            | nil => rw [hl]; rfl
            | cons d t => rw [hl] at hlen; simp at hlen; omega))
          go_wp2
          go_meet
          exact ⟨by first | rfl | exact Bool.noConfusion (unhide htwd) | rw [unhide htwd], rfl⟩
      case rest =>
        obtain ⟨rfl, rfl⟩ := hcut
        by_cases hk2 : 2 ≤ k
        · have hk2i : (2 : Int) ≤ (k : Int) := by omega
          have hw : withinW k 6 = 4 := by unfold withinW; rw [if_neg (by unfold sngW; simp; omega)]; rfl
          rw [hw] at HRD
          go_wp2_with fail
          rw [unhide HT]
          refine (unhide HRD _).mono ?_
          cases R with
          | err x =>
            rintro e w2 ⟨rfl, hx, b2⟩
            obtain ⟨hcc, hff⟩ := bcell b2
            have hsz : w1.heap.size < w2.heap.size := by have := b2.size; simp at this; omega
            obtain ⟨c1, f1, hadd⟩ := rbr_add (v := .slice none 0 0) (qs := []) tx q false 6 x (unhide HH) (unhide HB0 _) (by simp) b2 (wat_nil _ _ _ _) (by have := (unhide HR).1; omega) (by have := (unhide HR).2; omega)
            have HADD := hide hadd
            have HX := hide hx
            clear hadd hx b2
            go_wp2_with fail
            refine (unhide HADD).mono ?_
            rintro e w3 ⟨rfl, hR⟩
            have HRR := hide hR
            clear hR
            go_wp2
            first | refine bodyPost_end (res0 rfl _ _) rfl ?_ | refine bodyPost_ret (res0 rfl _ _) rfl ?_
            exact ⟨rfl, unhide HX, _, unhide HRR⟩
          | ok qs =>
            rintro e w2 ⟨v, rfl, b2, hv⟩
            obtain ⟨hcc, hff⟩ := bcell b2
            have hsz : w1.heap.size < w2.heap.size := by have := b2.size; simp at this; omega
            obtain ⟨c1, f1, hadd⟩ := rbr_add tx q false 6 0 (unhide HH) (unhide HB0 _) (by simp) b2 hv (by have := (unhide HR).1; omega) (by have := (unhide HR).2; omega)
            obtain ⟨ad, cap, rfl, hql⟩ := hv.len
            have HADD := hide hadd
            clear hadd b2 hv
            go_wp2_with fail
            refine (unhide HADD).mono ?_
            rintro e w3 ⟨rfl, hR⟩
            have HRR := hide hR
            clear hR
            go_wp2
            first | refine bodyPost_end (res0 rfl _ _) rfl ?_ | refine bodyPost_ret (res0 rfl _ _) rfl ?_
            rw [unhide HTX] at HRR
            exact ⟨rfl, unhide HRR⟩
        · have hk2i : ¬ (2 : Int) ≤ (k : Int) := by omega
          have hw : withinW k 6 = 1 := by unfold withinW; rw [if_pos (by unfold sngW; simp; omega)]
          rw [hw] at HRD
          go_wp2_with fail
          rw [unhide HT]
          refine (unhide HRD _).mono ?_
          cases R with
          | err x =>
            rintro e w2 ⟨rfl, hx, b2⟩
            obtain ⟨hcc, hff⟩ := bcell b2
            have hsz : w1.heap.size < w2.heap.size := by have := b2.size; simp at this; omega
            obtain ⟨c1, f1, hadd⟩ := rbr_add (v := .slice none 0 0) (qs := []) tx q false 6 x (unhide HH) (unhide HB0 _) (by simp) b2 (wat_nil _ _ _ _) (by have := (unhide HR).1; omega) (by have := (unhide HR).2; omega)
            have HADD := hide hadd
            have HX := hide hx
            clear hadd hx b2
            go_wp2_with fail
            refine (unhide HADD).mono ?_
            rintro e w3 ⟨rfl, hR⟩
            have HRR := hide hR
            clear hR
            go_wp2
            first | refine bodyPost_end (res0 rfl _ _) rfl ?_ | refine bodyPost_ret (res0 rfl _ _) rfl ?_
            exact ⟨rfl, unhide HX, _, unhide HRR⟩
          | ok qs =>
            rintro e w2 ⟨v, rfl, b2, hv⟩
            obtain ⟨hcc, hff⟩ := bcell b2
            have hsz : w1.heap.size < w2.heap.size := by have := b2.size; simp at this; omega
            obtain ⟨c1, f1, hadd⟩ := rbr_add tx q false 6 0 (unhide HH) (unhide HB0 _) (by simp) b2 hv (by have := (unhide HR).1; omega) (by have := (unhide HR).2; omega)
            obtain ⟨ad, cap, rfl, hql⟩ := hv.len
            have HADD := hide hadd
            clear hadd b2 hv
            go_wp2_with fail
            refine (unhide HADD).mono ?_
            rintro e w3 ⟨rfl, hR⟩
            have HRR := hide hR
            clear hR
            go_wp2
            first | refine bodyPost_end (res0 rfl _ _) rfl ?_ | refine bodyPost_ret (res0 rfl _ _) rfl ?_
            rw [unhide HTX] at HRR
            exact ⟨rfl, unhide HRR⟩
set_option maxRecDepth 20000 in
set_option maxHeartbeats 8000000 in
theorem rbr_ok7f (k : Nat) (ts : ByteArray) (w : World) (b : Nat) (X : Nat → Prop) (ps : List Prt) (q : Bool) (hk : k < 6) (hq : allW k = q) (hs : ts.size ≤ 4096) (h : RWt w b X ps 0) (hr : Room ps (ts.size + 1)) (hg : lenB ts.data.toList = false) (n : Nat) (hn : parN ts.data.toList = n) (h0 : n ≠ 0) (hnl : n < ts.size)  (hcl : colonL (ts.data.toList.drop n) = false) (l2 : List UInt8) (hl2 : behindL (ts.data.toList.drop n) = l2) (r2 : ByteArray) (hr2 : r2 = BA l2) (hr2s : r2.size ≤ 4096) (c : UInt8) (t : List UInt8) (hz : l2 = c :: t)  (htw : twB l2 = true) (e45 : ((c.toNat : Int) == 45) = false) (e61 : ((c.toNat : Int) == 61) = false) (e63 : ((c.toNat : Int) == 63) = false) (e43 : ((c.toNat : Int) == 43) = false) (e35 : ((c.toNat : Int) == 35) = true) (t2 : List UInt8) (ht2 : r2.extract 2 r2.size = BA t2) (R : Rd) (hRd : ∀ W, Calls Tryz.prog 19 #[.string (BA t2), .int .i64 ((withinW k 7 : Nat) : Int)] W fun e w' => WEnd R W e w') :
    Calls Tryz.prog 49 #[.pointer (some ⟨b, 0, none⟩), .string ts, .int .i64 (k : Int)] w fun e w' => RBrEnd q (bdOf (ts.data.toList.take n) 7 false R) w b X ps e w' := by
  have HP : Hid (∀ (u : ByteArray) W, u.size ≤ 100000 → Calls Tryz.prog 65 #[.string u] W fun e w' => e = .returned (.int .i64 (parN u.data.toList : Int)) ∧ w' = W) := hide (fun u W hu => rparam_any u W hu)
  have HB0 : Hid (∀ o, Below w.heap.size w (w.alloc o)) := hide (fun o => (Below.refl _ w).alloc (Nat.le_refl _) _)
  have hbw := h.lt
  have HH := hide h
  have HR := hide hr
  have HG := hide hg
  have HAL := hide (fun W => rallw_any k W hk)
  rw [hq] at HAL
  have hce : ∀ o, (w.alloc o).cell? ⟨b, 1, none⟩ = some (.int .i64 0) := fun o => ((h.below (unhide HB0 o)).err 0).1
  have hfe : ∀ o, (w.alloc o).frozen? ⟨b, 1, none⟩ = false := fun o => ((h.below (unhide HB0 o)).err 0).2.1
  have HER : Hid (∀ o, RAdds w b X ps 10 ((w.setCell ⟨b, 1, none⟩ (.int .i64 10)).alloc o)) := hide (fun o => (h.err 10).2.2.below ((Below.refl _ _).alloc (Nat.le_refl _) _))
  have HA : Hid (∀ w1 (t : ByteArray) (o : Int), t.size ≤ ts.size → Below w.heap.size w w1 → Calls Tryz.prog 28 #[.pointer (some ⟨b, 0, none⟩), .agg #[.int .i64 2, .string t, .bool q, .int .i64 o, .bool false, .slice none 0 0]] w1 fun e w' => e = .returned (.tuple #[]) ∧ RAdds w b X (addP ps (.mk 2 t.data.toList q o false [])) 0 w') := hide (fun w1 t o ht hb =>
    (rplain_add w1 b X ps 0 2 t q o false (h.below hb) ⟨by have := hr.1; omega, by have := hr.2; omega⟩).mono (fun e w' ⟨h1, h3⟩ => ⟨h1, h3.of_below hb⟩))
  clear h hr hg hq
  have hs1 : ts.size ≤ 100000 := by omega
  have hn0 : ((n : Int) == 0) = false := by rw [beq_eq_false_iff_ne]; omega
  have hni : (n : Int) ≤ (ts.size : Int) := by omega
  obtain ⟨rs, hrs⟩ : ∃ x, x = ts.extract n ts.size := ⟨_, rfl⟩
  obtain ⟨tx, htx⟩ : ∃ x, x = ts.extract 0 n := ⟨_, rfl⟩
  have hrl : rs.data.toList = ts.data.toList.drop n := by rw [hrs, ext_list]
  have HTX : Hid (tx.data.toList = ts.data.toList.take n) := hide (by rw [htx, ext_to])
  have htxs : tx.size ≤ ts.size := by rw [htx, ByteArray.size_extract]; omega
  rw [← hrl] at hcl hl2
  have hrsz : rs.size = ts.size - n := by rw [← data_len, hrl, List.length_drop, data_len]
  have hr0 : 0 < rs.size := by omega
  have hem : rs.toList.isEmpty = false := nonempty_of hr0
  have hcol : colonL rs.data.toList = ((rs[0].toNat : Int) == 58) := head_i hr0 58 (by omega)
  have HR2 : Hid (r2 = BA (behindL rs.data.toList)) := hide (by rw [hl2, hr2])
  have HCOL := hide (hcl.symm.trans hcol)
  have hr4 : rs.size ≤ 4096 := by omega
  have HRS := hide hrs
  have HTS := hide htx
  have HL2 := hide hr2
  clear hrl hcol hrs htx hrsz hcl hl2 hr2 h0
  have hz0 : 0 < r2.size := by rw [unhide HL2, hz]; simp
  have hne : r2.toList.isEmpty = false := nonempty_of hz0
  have hr2l : r2.data.toList = c :: t := by rw [unhide HL2, hz, BA_list]
  have hc0 : r2[0]'hz0 = c := by
    have := head_get hz0
    rw [hr2l] at this
    injection this with h1 _
    exact h1.symm
  have HTW : Hid (true = twB r2.data.toList) := hide (by rw [hr2l, ← hz, htw])
  have HC2 := hide hr2l
  clear hz htw hr2l
  have HT := hide ht2
  have HRD := hide hRd
  clear ht2 hRd
  have hlg : (2 : Int) ≤ (r2.size : Int) := by
    have h1 := unhide HTW
    have h2 := unhide HC2
    have h3 : r2.data.toList.length = r2.size := data_len r2
    cases t with
    | nil => rw [h2] at h1; cases h1
    | cons d t => rw [h2] at h3; simp at h3; omega
  go_enter Tryz.func49, Tryz.ntmps49
  go_wp2_with fail
  refine (unhide HAL _).mono ?_
  rintro e w1 ⟨rfl, rfl⟩
  go_upto_region 1 with fail
  go_cut [33] from 17 to 33 (fun c wx => c = .bool false ∧ wx = w1.alloc (.cells #[.int .i64 2, .string ⟨#[]⟩, .bool q, .int .i64 0, .bool false, .slice none 0 0] 37))
  case first =>
    by_cases h1 : 1 < ts.size
    · have h1i : (1 : Int) < (ts.size : Int) := by omega
      have h0 : 0 < ts.size := by omega
      cases e35 : ((ts[0].toNat : Int) == 35) with
      | true =>
        have hgl := hide ((unhide HG).symm.trans (lenB_is h1 e35))
        have hx := hide (ext_list ts 1)
        have hxs : (ts.extract 1 ts.size).size ≤ 100000 := by rw [ByteArray.size_extract]; omega
        have hwr : IntKind.i64.wrap ((ts.size : Int) - 1) = (ts.size : Int) - 1 := by rw [IntKind.wrap_i64]; omega
        go_wp2_with fail
        refine (unhide HP _ _ hxs).mono ?_
        rintro e w1 ⟨rfl, rfl⟩
        rw [unhide hx]
        go_wp2
        go_meet
        exact ⟨congrArg Value.bool (by rw [← List.drop_one]; exact (unhide hgl).symm), rfl⟩
      | false =>
        have hgl := (unhide HG).symm.trans (lenB_no h0 e35)
        first
        | exact Bool.noConfusion hgl
        | (go_wp2
           go_meet
           exact ⟨rfl, rfl⟩)
    · have h1i : ¬ (1 : Int) < (ts.size : Int) := by omega
      have hgl := (unhide HG).symm.trans (lenB_short h1)
      first
      | exact Bool.noConfusion hgl
      | (go_wp2
         go_meet
         exact ⟨rfl, rfl⟩)
  case rest =>
    obtain ⟨rfl, rfl⟩ := hcut
    go_wp2_with fail
    refine (unhide HP _ _ hs1).mono ?_
    rintro e w2 ⟨rfl, rfl⟩
    rw [hn]
    go_upto_region 10 with fail
    rw [← unhide HRS, ← unhide HTS]
    go_upto_if 62 with fail
    go_cut [1] from 60 to 65 (fun s wx => s = .string r2 ∧ wx = w1.alloc (.cells #[.int .i64 2, .string tx, .bool q, .int .i64 0, .bool false, .slice none 0 0] 37))
    case first =>
      have hri : (1 : Int) ≤ (rs.size : Int) := by omega
      cases e58 : ((rs[0].toNat : Int) == 58) with
      | true =>
        have hc1 : false = true := (unhide HCOL).trans e58
        have hx : rs.extract 1 rs.size = r2 := by
          have h1 : colonL rs.data.toList = true := (head_i hr0 58 (by omega)).trans e58
          rw [unhide HR2, extract_end]
          unfold behindL
          rw [if_pos h1]
        have HX := hide hx
        have HC := hide hc1
        clear hx hc1
        go_wp2
        go_meet
        exact ⟨congrArg Value.string (unhide HX), by first | rfl | exact Bool.noConfusion (unhide HC) | rw [unhide HC]⟩
      | false =>
        have hc1 : false = false := (unhide HCOL).trans e58
        have hx : rs = r2 := by
          have h1 : ¬ colonL rs.data.toList = true := by rw [show colonL rs.data.toList = _ from head_i hr0 58 (by omega)]; rw [show ((58 : Nat) : Int) = 58 from rfl, e58]; simp
          rw [unhide HR2]
          unfold behindL
          rw [if_neg h1, BA_of]
        have HX := hide hx
        have HC := hide hc1
        clear hx hc1
        go_wp2
        go_meet
        exact ⟨congrArg Value.string (unhide HX), by first | rfl | exact Bool.noConfusion (unhide HC) | rw [unhide HC]⟩
    case rest =>
      obtain ⟨rfl, rfl⟩ := hcut
      go_upto_region 18 with fail
      go_cut [9] from 70 to 78 (fun x wx => x = .bool true ∧ wx = w1.alloc (.cells #[.int .i64 2, .string tx, .bool q, .int .i64 0, .bool false, .slice none 0 0] 37))
      case first =>
        by_cases h1 : 1 < r2.size
        · have h1i : (1 : Int) < (r2.size : Int) := by omega
          have htwd : Hid (true = (((r2[1]'h1).toNat : Int) == (c.toNat : Int))) := hide (by
            have e1 : r2.data.toList[1]'(by rw [data_len]; exact h1) = r2[1]'h1 := rfl
            rw [unhide HTW]
            revert e1
            have hl := unhide HC2
            have hlen : r2.data.toList.length = r2.size := data_len r2
            cases t with
            | nil => rw [hl] at hlen; simp at hlen; omega
            | cons d t =>
              intro e1
              have e2 : r2.data.toList[1]? = some (r2[1]'h1) := by rw [← e1]; exact List.getElem?_eq_getElem _
              rw [hl] at e2 ⊢
              simp at e2
              rw [← e2]
              rfl)
          go_wp2
          go_meet
          exact ⟨by first | rfl | exact Bool.noConfusion (unhide htwd) | rw [unhide htwd], rfl⟩
        · have h1i : ¬ (1 : Int) < (r2.size : Int) := by omega
          have htwd : Hid (true = false) := hide ((unhide HTW).trans (by
            have hl := unhide HC2
            have hlen : r2.data.toList.length = r2.size := data_len r2
            cases t with
            | nil => rw [hl]; rfl
            | cons d t => rw [hl] at hlen; simp at hlen; omega))
          go_wp2
          go_meet
          exact ⟨by first | rfl | exact Bool.noConfusion (unhide htwd) | rw [unhide htwd], rfl⟩
      case rest =>
        obtain ⟨rfl, rfl⟩ := hcut
        by_cases hk2 : 2 ≤ k
        · have hk2i : (2 : Int) ≤ (k : Int) := by omega
          have hw : withinW k 7 = 4 := by unfold withinW; rw [if_neg (by unfold sngW; simp; omega)]; rfl
          rw [hw] at HRD
          go_wp2_with fail
          rw [unhide HT]
          refine (unhide HRD _).mono ?_
          cases R with
          | err x =>
            rintro e w2 ⟨rfl, hx, b2⟩
            obtain ⟨hcc, hff⟩ := bcell b2
            have hsz : w1.heap.size < w2.heap.size := by have := b2.size; simp at this; omega
            obtain ⟨c1, f1, hadd⟩ := rbr_add (v := .slice none 0 0) (qs := []) tx q false 7 x (unhide HH) (unhide HB0 _) (by simp) b2 (wat_nil _ _ _ _) (by have := (unhide HR).1; omega) (by have := (unhide HR).2; omega)
            have HADD := hide hadd
            have HX := hide hx
            clear hadd hx b2
            go_wp2_with fail
            refine (unhide HADD).mono ?_
            rintro e w3 ⟨rfl, hR⟩
            have HRR := hide hR
            clear hR
            go_wp2
            first | refine bodyPost_end (res0 rfl _ _) rfl ?_ | refine bodyPost_ret (res0 rfl _ _) rfl ?_
            exact ⟨rfl, unhide HX, _, unhide HRR⟩
          | ok qs =>
            rintro e w2 ⟨v, rfl, b2, hv⟩
            obtain ⟨hcc, hff⟩ := bcell b2
            have hsz : w1.heap.size < w2.heap.size := by have := b2.size; simp at this; omega
            obtain ⟨c1, f1, hadd⟩ := rbr_add tx q false 7 0 (unhide HH) (unhide HB0 _) (by simp) b2 hv (by have := (unhide HR).1; omega) (by have := (unhide HR).2; omega)
            obtain ⟨ad, cap, rfl, hql⟩ := hv.len
            have HADD := hide hadd
            clear hadd b2 hv
            go_wp2_with fail
            refine (unhide HADD).mono ?_
            rintro e w3 ⟨rfl, hR⟩
            have HRR := hide hR
            clear hR
            go_wp2
            first | refine bodyPost_end (res0 rfl _ _) rfl ?_ | refine bodyPost_ret (res0 rfl _ _) rfl ?_
            rw [unhide HTX] at HRR
            exact ⟨rfl, unhide HRR⟩
        · have hk2i : ¬ (2 : Int) ≤ (k : Int) := by omega
          have hw : withinW k 7 = 1 := by unfold withinW; rw [if_pos (by unfold sngW; simp; omega)]
          rw [hw] at HRD
          go_wp2_with fail
          rw [unhide HT]
          refine (unhide HRD _).mono ?_
          cases R with
          | err x =>
            rintro e w2 ⟨rfl, hx, b2⟩
            obtain ⟨hcc, hff⟩ := bcell b2
            have hsz : w1.heap.size < w2.heap.size := by have := b2.size; simp at this; omega
            obtain ⟨c1, f1, hadd⟩ := rbr_add (v := .slice none 0 0) (qs := []) tx q false 7 x (unhide HH) (unhide HB0 _) (by simp) b2 (wat_nil _ _ _ _) (by have := (unhide HR).1; omega) (by have := (unhide HR).2; omega)
            have HADD := hide hadd
            have HX := hide hx
            clear hadd hx b2
            go_wp2_with fail
            refine (unhide HADD).mono ?_
            rintro e w3 ⟨rfl, hR⟩
            have HRR := hide hR
            clear hR
            go_wp2
            first | refine bodyPost_end (res0 rfl _ _) rfl ?_ | refine bodyPost_ret (res0 rfl _ _) rfl ?_
            exact ⟨rfl, unhide HX, _, unhide HRR⟩
          | ok qs =>
            rintro e w2 ⟨v, rfl, b2, hv⟩
            obtain ⟨hcc, hff⟩ := bcell b2
            have hsz : w1.heap.size < w2.heap.size := by have := b2.size; simp at this; omega
            obtain ⟨c1, f1, hadd⟩ := rbr_add tx q false 7 0 (unhide HH) (unhide HB0 _) (by simp) b2 hv (by have := (unhide HR).1; omega) (by have := (unhide HR).2; omega)
            obtain ⟨ad, cap, rfl, hql⟩ := hv.len
            have HADD := hide hadd
            clear hadd b2 hv
            go_wp2_with fail
            refine (unhide HADD).mono ?_
            rintro e w3 ⟨rfl, hR⟩
            have HRR := hide hR
            clear hR
            go_wp2
            first | refine bodyPost_end (res0 rfl _ _) rfl ?_ | refine bodyPost_ret (res0 rfl _ _) rfl ?_
            rw [unhide HTX] at HRR
            exact ⟨rfl, unhide HRR⟩
end Go.Proofs.YtnamfjbfcbamjaaGreatDoor

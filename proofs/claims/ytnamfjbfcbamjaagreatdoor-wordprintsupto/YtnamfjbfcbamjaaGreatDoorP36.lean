/-
  The document's reader: thing (all but runs and double quotes).
  The document's reader: thing: single quotes, braces.
  The document's reader: thing: double quotes.
  The document's reader: thing: runs.
  The document's reader: thing, of any thing.
-/
import Derived.Test.YtnamfjbfcbamjaaGreatDoorP35
import Derived.Test.YtnamfjbfcbamjaaGreatDoorP15
import Derived.Deep.RegionWith
import Derived.Test.YtnamfjbfcbamjaaGreatDoorP16
namespace Go.Proofs.YtnamfjbfcbamjaaGreatDoor
open Go.RowKit
def RTEnd (r : Th) (w : World) (b : Nat) (X : Nat → Prop) (ps : List Prt) (e : Ending) (w' : World) : Prop :=
  match r with
  | .ok evs _ => e = .returned (.tuple #[]) ∧ RAdds w b X (evs.foldl addP ps) 0 w'
  | .err x => e = .returned (.tuple #[]) ∧ x ≠ 0 ∧ ∃ qs, RAdds w b X qs x w'
theorem byte_at0 {ts : ByteArray} {c : UInt8} {u : List UInt8} (h : ts.data.toList = c :: u) : ∃ h0 : 0 < ts.size, ts[0]'h0 = c ∧ ts.size = u.length + 1 := by
  have hsz : ts.size = u.length + 1 := by rw [← data_len, h]; rfl
  refine ⟨by omega, ?_, hsz⟩
  have := head_get (s := ts) (by omega)
  rw [h] at this
  injection this with h1 _
  exact h1.symm
set_option maxRecDepth 20000 in
set_option maxHeartbeats 4000000 in
theorem rth_92 (k : Nat) (ts : ByteArray) (u rest : List UInt8) (w : World) (b : Nat) (X : Nat → Prop) (ps : List Prt) (hk : k < 6) (hts : ts.data.toList = 92 :: u) (hu : u.length ≤ 1) (h : RWt w b X ps 0) (hr : Room ps (2 * ts.size + 4)) :
    Calls Tryz.prog 31 #[.pointer (some ⟨b, 0, none⟩), .string ts, .int .i64 (k : Int)] w fun e w' => RTEnd (.ok (pairL k u) rest) w b X ps e w' := by
  have HA := hide (rpair_any k ts u w b X ps 0 hk hts hu h ⟨by have := hr.1; omega, by have := hr.2; omega⟩)
  obtain ⟨h0, hc, hsz⟩ := byte_at0 hts
  clear h hts
  go_enter Tryz.func31, Tryz.ntmps31
  go_wp2_with fail
  refine (unhide HA).mono ?_
  rintro e w1 ⟨rfl, hR⟩
  have HR := hide hR
  clear hR
  go_wp2
  first | refine bodyPost_end (res0 rfl _ _) rfl ?_ | refine bodyPost_ret (res0 rfl _ _) rfl ?_
  exact ⟨rfl, unhide HR⟩
set_option maxRecDepth 20000 in
set_option maxHeartbeats 4000000 in
theorem rth_meta (ts : ByteArray) (c : UInt8) (w : World) (b : Nat) (X : Nat → Prop) (ps : List Prt) (hts : ts.data.toList = [c]) (h92 : ((c.toNat : Int) == 92) = false) (hm : metB (c.toNat : Int) = true) (h : RWt w b X ps 0) :
    Calls Tryz.prog 31 #[.pointer (some ⟨b, 0, none⟩), .string ts, .int .i64 0] w fun e w' => RTEnd (.err 10) w b X ps e w' := by
  obtain ⟨h0, hc, hsz⟩ := byte_at0 hts
  have hq : ((ts.size : Int) == 1) = true := by rw [hsz]; rfl
  obtain ⟨c1, f1, a1⟩ := h.err 10
  have HA := hide a1
  clear h hts a1 hsz
  go_enter Tryz.func31, Tryz.ntmps31
  go_wp2_with fail
  refine (rmeta_any _ _).mono ?_
  rintro e w1 ⟨rfl, rfl⟩
  rw [hm]
  go_wp2
  first | refine bodyPost_end (res0 rfl _ _) rfl ?_ | refine bodyPost_ret (res0 rfl _ _) rfl ?_
  exact ⟨rfl, by decide, ps, unhide HA⟩
set_option maxRecDepth 20000 in
set_option maxHeartbeats 4000000 in
theorem rth_one (k : Nat) (ts : ByteArray) (c : UInt8) (rest : List UInt8) (w : World) (b : Nat) (X : Nat → Prop) (ps : List Prt) (q : Bool) (hk : k < 6) (hts : ts.data.toList = [c]) (h92 : ((c.toNat : Int) == 92) = false) (hm : k = 0 → metB (c.toNat : Int) = false) (hq : (allW k || ((c.toNat : Int) == 36)) = q) (h : RWt w b X ps 0) (hr : Room ps (2 * ts.size + 4)) :
    Calls Tryz.prog 31 #[.pointer (some ⟨b, 0, none⟩), .string ts, .int .i64 (k : Int)] w fun e w' => RTEnd (.ok [litP [c] q] rest) w b X ps e w' := by
  obtain ⟨h0, hc, hsz⟩ := byte_at0 hts
  have hs1 : ((ts.size : Int) == 1) = true := by rw [hsz]; rfl
  have HL := hide (rlit_any w b X ps 0 ts q h (by have := hr.1; omega) (by have := hr.2; omega))
  have HAL := hide (fun W => rallw_any k W hk)
  have HT := hide hts
  clear h hts hsz hr
  have hk0 : k = 0 ∨ ((k : Int) == 0) = false := by
    by_cases e : k = 0
    · exact .inl e
    · exact .inr (by rw [beq_eq_false_iff_ne]; omega)
  rcases hk0 with rfl | hk0
  · have hmm := hm rfl
    have hal : allW 0 = false := rfl
    rw [hal] at HAL hq
    go_enter Tryz.func31, Tryz.ntmps31
    go_wp2_with fail
    refine (rmeta_any _ _).mono ?_
    rintro e w1 ⟨rfl, rfl⟩
    rw [hmm]
    go_wp2_with fail
    refine (unhide HAL _).mono ?_
    rintro e w1 ⟨rfl, rfl⟩
    go_wp2_with fail
    rw [show ((c.toNat : Int) == 36) = q from hq]
    refine (unhide HL).mono ?_
    rintro e w1 ⟨rfl, hR⟩
    have HR := hide hR
    clear hR
    go_wp2
    first | refine bodyPost_end (res0 rfl _ _) rfl ?_ | refine bodyPost_ret (res0 rfl _ _) rfl ?_
    rw [unhide HT] at HR
    exact ⟨rfl, unhide HR⟩
  · cases hal : allW k with
    | false =>
      rw [hal] at HAL hq
      go_enter Tryz.func31, Tryz.ntmps31
      go_wp2_with fail
      refine (unhide HAL _).mono ?_
      rintro e w1 ⟨rfl, rfl⟩
      go_wp2_with fail
      rw [show ((c.toNat : Int) == 36) = q from hq]
      refine (unhide HL).mono ?_
      rintro e w1 ⟨rfl, hR⟩
      have HR := hide hR
      clear hR
      go_wp2
      first | refine bodyPost_end (res0 rfl _ _) rfl ?_ | refine bodyPost_ret (res0 rfl _ _) rfl ?_
      rw [unhide HT] at HR
      exact ⟨rfl, unhide HR⟩
    | true =>
      rw [hal] at HAL hq
      have hq1 : q = true := by rw [← hq]; rfl
      subst hq1
      go_enter Tryz.func31, Tryz.ntmps31
      go_wp2_with fail
      refine (unhide HAL _).mono ?_
      rintro e w1 ⟨rfl, rfl⟩
      go_wp2_with fail
      refine (unhide HL).mono ?_
      rintro e w1 ⟨rfl, hR⟩
      have HR := hide hR
      clear hR
      go_wp2
      first | refine bodyPost_end (res0 rfl _ _) rfl ?_ | refine bodyPost_ret (res0 rfl _ _) rfl ?_
      rw [unhide HT] at HR
      exact ⟨rfl, unhide HR⟩
end Go.Proofs.YtnamfjbfcbamjaaGreatDoor
namespace Go.Proofs.YtnamfjbfcbamjaaGreatDoor
open Go.RowKit
theorem drop_last (u : List UInt8) : u.dropLast.drop 1 = (u.drop 1).dropLast := by
  match u with
  | [] => rfl
  | [_] => rfl
  | _ :: _ :: _ => rfl
theorem ext_in {ts : ByteArray} {c : UInt8} {u : List UInt8} (h : ts.data.toList = c :: u) : ts.extract 1 u.length = BA u.dropLast := by
  have hsz : ts.size = u.length + 1 := by rw [← data_len, h]; rfl
  have := ext_mid ts
  rw [hsz, Nat.add_sub_cancel, h] at this
  exact this
set_option maxRecDepth 20000 in
set_option maxHeartbeats 4000000 in
theorem rth_39 (k : Nat) (ts : ByteArray) (u rest : List UInt8) (w : World) (b : Nat) (X : Nat → Prop) (ps : List Prt) (hts : ts.data.toList = 39 :: u) (hu : u ≠ []) (hs : ts.size ≤ 4096) (h : RWt w b X ps 0) (hr : Room ps (2 * ts.size + 4)) :
    Calls Tryz.prog 31 #[.pointer (some ⟨b, 0, none⟩), .string ts, .int .i64 (k : Int)] w fun e w' => RTEnd (.ok [litP u.dropLast true] rest) w b X ps e w' := by
  obtain ⟨h0, hc, hsz⟩ := byte_at0 hts
  have hx := ext_in hts
  obtain ⟨m, hm⟩ : ∃ m, m = u.length := ⟨_, rfl⟩
  rw [← hm] at hsz hx
  have hm1 : 1 ≤ m := by have := List.length_pos_iff.2 hu; omega
  have hs1 : ((ts.size : Int) == 1) = false := by rw [beq_eq_false_iff_ne]; omega
  have hwr : IntKind.i64.wrap ((ts.size : Int) - 1) = (m : Int) := by rw [IntKind.wrap_i64]; omega
  have hmi : (1 : Int) ≤ (m : Int) := by omega
  have hmt : (m : Int) ≤ (ts.size : Int) := by omega
  have hxs : (ts.extract 1 m).size ≤ ts.size := by rw [ByteArray.size_extract]; omega
  have HL := hide (rlit_any w b X ps 0 (ts.extract 1 m) true h (by have := hr.1; omega) (by have := hr.2; omega))
  have HX : Hid ((ts.extract 1 m).data.toList = u.dropLast) := hide (by rw [hx, BA_list])
  clear h hts hsz hr hx hm hu
  go_enter Tryz.func31, Tryz.ntmps31
  go_wp2_with fail
  refine (unhide HL).mono ?_
  rintro e w1 ⟨rfl, hR⟩
  have HR := hide hR
  clear hR
  go_wp2
  first | refine bodyPost_end (res0 rfl _ _) rfl ?_ | refine bodyPost_ret (res0 rfl _ _) rfl ?_
  rw [unhide HX] at HR
  exact ⟨rfl, unhide HR⟩
set_option maxRecDepth 20000 in
set_option maxHeartbeats 4000000 in
theorem rth_brace {N : Nat} (hW : RWordN N) (k : Nat) (ts : ByteArray) (u rest : List UInt8) (w : World) (b : Nat) (X : Nat → Prop) (ps : List Prt) (hk : k < 6) (hts : ts.data.toList = 36 :: u) (hu : 2 ≤ u.length) (hhd : u.head? = some 123) (hN : ts.size ≤ N + 2) (hs : ts.size ≤ 4096) (h : RWt w b X ps 0) (hr : Room ps (2 * ts.size + 4)) :
    Calls Tryz.prog 31 #[.pointer (some ⟨b, 0, none⟩), .string ts, .int .i64 (k : Int)] w fun e w' => RTEnd (lgTh k rest (lngL (rdC false) k u)) w b X ps e w' := by
  obtain ⟨h0, hc, hsz⟩ := byte_at0 hts
  have hx := ext_in hts
  obtain ⟨m, hm⟩ : ∃ m, m = u.length := ⟨_, rfl⟩
  rw [← hm] at hsz hx
  have h1 : 1 < ts.size := by omega
  have hc1 : ts[1]'h1 = 123 := by
    have e1 : ts.data.toList[1]? = some (ts[1]'h1) := List.getElem?_eq_getElem (by rw [data_len]; exact h1)
    rw [hts] at e1
    cases u with
    | nil => simp at hhd
    | cons d u =>
      simp at e1 hhd
      rw [← e1, hhd]
  have hs1 : ((ts.size : Int) == 1) = false := by rw [beq_eq_false_iff_ne]; omega
  have hwr : IntKind.i64.wrap ((ts.size : Int) - 1) = (m : Int) := by rw [IntKind.wrap_i64]; omega
  have hmi : (1 : Int) ≤ (m : Int) := by omega
  have hmt : (m : Int) ≤ (ts.size : Int) := by omega
  obtain ⟨inn, hin⟩ : ∃ x, x = ts.extract 1 m := ⟨_, rfl⟩
  have hinl : inn.data.toList = u.dropLast := by rw [hin, hx, BA_list]
  have hins : inn.size = m - 1 := by rw [← data_len, hinl, List.length_dropLast, hm]
  have hi1 : (1 : Int) ≤ (inn.size : Int) := by omega
  have hel : (inn.extract 1 inn.size).data.toList = (u.drop 1).dropLast := by rw [ext_list, hinl, drop_last]
  have hes : (inn.extract 1 inn.size).size = m - 2 := by rw [ByteArray.size_extract]; omega
  have hlg : lngL (rdC false) k u = brcL (rdC false) k (inn.extract 1 inn.size).data.toList := by
    unfold lngL
    rw [if_neg (by rw [hhd]; decide), hel]
  have HB := hide (rbrace_any hW k (inn.extract 1 inn.size) w b X ps hk (by omega) (by omega) h ⟨by have := hr.1; omega, by have := hr.2; omega⟩)
  rw [← hlg] at HB
  have HIN := hide hin
  clear h hts hsz hr hx hm hu hhd hlg hel hes hinl hins hin hW
  obtain ⟨R, hR⟩ : ∃ R, R = lngL (rdC false) k u := ⟨_, rfl⟩
  rw [← hR] at HB ⊢
  clear hR
  go_enter Tryz.func31, Tryz.ntmps31
  go_upto_region 8 with fail
  rw [← unhide HIN]
  go_wp2_with fail
  refine (unhide HB).mono ?_
  cases R with
  | err x =>
    rintro e w1 ⟨rfl, hx, qs, hR⟩
    have HR := hide hR
    have HX := hide hx
    clear hR hx
    go_wp2
    first | refine bodyPost_end (res0 rfl _ _) rfl ?_ | refine bodyPost_ret (res0 rfl _ _) rfl ?_
    exact ⟨rfl, unhide HX, qs, unhide HR⟩
  | ok p =>
    rintro e w1 ⟨rfl, hR⟩
    have HR := hide hR
    clear hR
    go_wp2
    first | refine bodyPost_end (res0 rfl _ _) rfl ?_ | refine bodyPost_ret (res0 rfl _ _) rfl ?_
    exact ⟨rfl, unhide HR⟩
end Go.Proofs.YtnamfjbfcbamjaaGreatDoor
namespace Go.Proofs.YtnamfjbfcbamjaaGreatDoor
open Go.RowKit
set_option maxRecDepth 20000 in
set_option maxHeartbeats 4000000 in
theorem rth_34 {N : Nat} (hW : RWordN N) (k : Nat) (ts : ByteArray) (u rest : List UInt8) (w : World) (b : Nat) (X : Nat → Prop) (ps : List Prt) (hts : ts.data.toList = 34 :: u) (hu : u ≠ []) (hN : ts.size ≤ N + 2) (hs : ts.size ≤ 4096) (h : RWt w b X ps 0) (hr : Room ps (2 * ts.size + 4)) :
    Calls Tryz.prog 31 #[.pointer (some ⟨b, 0, none⟩), .string ts, .int .i64 (k : Int)] w fun e w' => RTEnd (dqTh rest (rdC false 2 u.dropLast).word) w b X ps e w' := by
  obtain ⟨h0, hc, hsz⟩ := byte_at0 hts
  have hx := ext_in hts
  obtain ⟨m, hm⟩ : ∃ m, m = u.length := ⟨_, rfl⟩
  rw [← hm] at hsz hx
  have hm1 : 1 ≤ m := by have := List.length_pos_iff.2 hu; omega
  have hul : u.dropLast.length = m - 1 := by rw [List.length_dropLast, hm]
  have hs1 : ((ts.size : Int) == 1) = false := by rw [beq_eq_false_iff_ne]; omega
  have hwr : IntKind.i64.wrap ((ts.size : Int) - 1) = (m : Int) := by rw [IntKind.wrap_i64]; omega
  have hmi : (1 : Int) ≤ (m : Int) := by omega
  have hmt : (m : Int) ≤ (ts.size : Int) := by omega
  have HW := hide (hW 2 u.dropLast w (by decide) (by omega) (by omega))
  rw [← hx] at HW
  have hfew := few_word (rdC_few false _ 2 u.dropLast (Nat.le_refl _))
  obtain ⟨R, hR⟩ : ∃ R, R = (rdC false 2 u.dropLast).word := ⟨_, rfl⟩
  rw [← hR] at HW hfew ⊢
  have hul2 : u.dropLast.length ≤ ts.size := by omega
  obtain ⟨l, hl⟩ : ∃ l, l = u.dropLast := ⟨_, rfl⟩
  rw [← hl] at hfew hul2
  have HL := hide h
  have HRm := hide hr
  have hbw := h.lt
  have HXlo := hide h.hi
  clear h hts hsz hr hx hm hu hR hW hul hl hN
  cases R with
  | err x =>
    have HW' : Hid (Calls Tryz.prog 19 #[.string (ts.extract 1 m), .int .i64 2] w fun e w' => e = .returned (.tuple #[.slice none 0 0, .int .i64 x]) ∧ x ≠ 0 ∧ Below w.heap.size w w') := HW
    clear HW
    go_enter Tryz.func31, Tryz.ntmps31
    go_wp2_with fail
    refine (unhide HW').mono ?_
    rintro e w1 ⟨rfl, hx, b1⟩
    have hx1 : (x != 0) = true := by simpa using hx
    obtain ⟨c1, f1, a1⟩ := ((unhide HL).below b1).err x
    have HA := hide (a1.of_below b1)
    have HX := hide hx
    clear b1 hx a1
    go_wp2
    first | refine bodyPost_end (res0 rfl _ _) rfl ?_ | refine bodyPost_ret (res0 rfl _ _) rfl ?_
    exact ⟨rfl, unhide HX, ps, unhide HA⟩
  | ok qs =>
    have HW' : Hid (Calls Tryz.prog 19 #[.string (ts.extract 1 m), .int .i64 2] w fun e w' => ∃ v, e = .returned (.tuple #[v, .int .i64 0]) ∧ Below w.heap.size w w' ∧ WAt w' (fun k => w.heap.size ≤ k ∧ k < w'.heap.size) v qs) := HW
    clear HW
    have hq : Few l.length qs := hfew
    have HQ := hide hq
    clear hq hfew
    go_enter Tryz.func31, Tryz.ntmps31
    go_wp2_with fail
    refine (unhide HW').mono ?_
    rintro e w1 ⟨v, rfl, b1, hv⟩
    obtain ⟨ad, cap, rfl, hql⟩ := hv.len
    have HB := hide b1
    have HV := hide hv
    clear hv b1 HW'
    by_cases hqe : qs = []
    · subst hqe
      have HA := hide ((rlit_any w1 b X ps 0 ⟨#[]⟩ true ((unhide HL).below (unhide HB)) (by have := (unhide HRm).1; omega) (by have := (unhide HRm).2; show _ + 0 ≤ _; omega)))
      go_wp2_with fail
      refine (unhide HA).mono ?_
      rintro e w3 ⟨rfl, a3⟩
      have HA3 := hide (a3.of_below (unhide HB))
      clear a3 HA
      go_wp2_with fail
      go_loopw [10] (fun i wr => i = .int .i64 0 ∧ Hid (RAdds w b X (addP ps (litP [] true)) 0 wr)) (fun i _ => 0)
      case atStart => exact ⟨rfl, HA3⟩
      case round =>
        obtain ⟨rfl, HA4⟩ := hrel
        go_wp2
        first | refine bodyPost_end (res0 rfl _ _) rfl ?_ | refine bodyPost_ret (res0 rfl _ _) rfl ?_
        exact ⟨rfl, unhide HA4⟩
    · have hpos : 0 < qs.length := List.length_pos_iff.2 hqe
      have hne0 : ((qs.length : Int) == 0) = false := by rw [beq_eq_false_iff_ne]; omega
      have hemp : Hid ((if qs.isEmpty then [litP [] true] else qs) = qs) := hide (by cases qs with
        | nil => exact absurd rfl hqe
        | cons _ _ => rfl)
      have HST : Hid (RWt w1 b X ps 0) := hide ((unhide HL).below (unhide HB))
      clear hqe
      go_wp2_with fail
      go_loopw [10] (fun i wr => ∃ k : Nat, k ≤ qs.length ∧ i = .int .i64 k ∧ Hid (∃ X', RWt wr b X' ((qs.take k).foldl addP ps) 0 ∧ GrownS w1 wr X ∧ ∀ k, X' k → X k ∨ w1.heap.size ≤ k)) (fun i _ => qs.length - (intOf i).toNat)
      case atStart => exact ⟨0, Nat.zero_le _, rfl, hide ⟨X, unhide HST, grownS_of_below (Below.refl _ _), fun _ h => .inl h⟩⟩
      case round =>
        obtain ⟨k, hk, rfl, HI⟩ := hrel
        by_cases hlt : k < qs.length
        · obtain ⟨p, hp⟩ : ∃ p, qs[k]? = some p := ⟨qs[k], List.getElem?_eq_getElem hlt⟩
          obtain ⟨X', hS, hG, hX'⟩ := unhide HI
          have hwat : WAt wr (fun k => w.heap.size ≤ k ∧ k < w1.heap.size) (.slice ad qs.length cap) qs := (unhide HV).kept (fun k hk => hG.block k hk.2 (fun e => by have := unhide HXlo k e; omega)) (fun _ h => h)
          obtain ⟨g, o, pv, had, hg, p0, p1, p2, p3, p4, p5, hsub⟩ := hwat.part hp
          obtain ⟨va, vc, rfl, _⟩ := hsub.len
          subst had
          have hgs := hG.size
          have hgw : g < wr.heap.size := by omega
          have hin : ∀ k, (w.heap.size ≤ k ∧ k < w1.heap.size) → InW b X' wr k := fun k hk => ⟨by omega, by omega, fun e => by
            rcases hX' k e with e | e
            · have := unhide HXlo k e; omega
            · omega⟩
          have hfw := take_few (unhide HQ) k
          have hfo := fold_few (qs.take k) ps
          have hpt : p.text.length ≤ l.length := Nat.le_trans (mem_tlen (List.mem_of_getElem? hp)) (unhide HQ).2
          have HA : Hid (Calls Tryz.prog 28 #[.pointer (some ⟨b, 0, none⟩), .agg #[.int .i64 p.kind, .string (BA p.text), .bool p.quote, .int .i64 p.op, .bool p.colon, .slice va p.sub.length vc]] wr fun e w' => e = .returned (.tuple #[]) ∧ ∃ X2, RWt w' b X2 ((qs.take (k + 1)).foldl addP ps) 0 ∧ GrownS w1 w' X ∧ ∀ k, X2 k → X k ∨ w1.heap.size ≤ k) := hide (by
            refine (radd_any wr b X' _ ((qs.take k).foldl addP ps) 0 _ p hS ⟨_, rfl, hsub⟩ hin ?_ ?_).mono ?_
            · have := (unhide HRm).1; have := hfw.1; omega
            · have := (unhide HRm).2; have := hfw.2; omega
            · rintro e w' ⟨rfl, a2⟩
              refine ⟨rfl, ?_⟩
              rw [fold_take hp]
              exact RAdds.trans hG hX' a2)
          clear hS hwat hsub hin hfw hfo hpt HI hX' hG hgs hg
          go_wp2_with fail
          refine (unhide HA).mono ?_
          rintro e w2 ⟨rfl, a2⟩
          have HA2 := hide a2
          clear a2 hp
          go_wp2
          go_roundw
          case rel => exact ⟨k + 1, by omega, by go_num, HA2⟩
          case measure => simp [intOf]; omega
        · have HE : Hid (RAdds w b X (qs.foldl addP ps) 0 wr) := hide (by
            obtain ⟨X', hS, hG, hX'⟩ := unhide HI
            rw [List.take_of_length_le (by omega)] at hS
            exact RAdds.of_below (unhide HB) ⟨X', hS, hG, hX'⟩)
          clear HI
          go_wp2
          first | refine bodyPost_end (res0 rfl _ _) rfl ?_ | refine bodyPost_ret (res0 rfl _ _) rfl ?_
          refine ⟨rfl, ?_⟩
          rw [unhide hemp]
          exact unhide HE
end Go.Proofs.YtnamfjbfcbamjaaGreatDoor
namespace Go.Proofs.YtnamfjbfcbamjaaGreatDoor
open Go.RowKit
set_option maxRecDepth 20000 in
set_option maxHeartbeats 4000000 in
theorem rth_run (k : Nat) (ts : ByteArray) (u rest : List UInt8) (w : World) (b : Nat) (X : Nat → Prop) (ps : List Prt) (hk : k < 6) (hts : ts.data.toList = 36 :: u) (hu : 2 ≤ u.length) (hhd : u.head? = some 40) (hs : ts.size ≤ 4096) (h : RWt w b X ps 0) (hr : Room ps (2 * ts.size + 4)) :
    Calls Tryz.prog 31 #[.pointer (some ⟨b, 0, none⟩), .string ts, .int .i64 (k : Int)] w fun e w' => RTEnd (lgTh k rest (lngL (rdC false) k u)) w b X ps e w' := by
  obtain ⟨h0, hc, hsz⟩ := byte_at0 hts
  have hx := ext_in hts
  obtain ⟨m, hm⟩ : ∃ m, m = u.length := ⟨_, rfl⟩
  rw [← hm] at hsz hx
  have h1 : 1 < ts.size := by omega
  have hc1 : ts[1]'h1 = 40 := by
    have e1 : ts.data.toList[1]? = some (ts[1]'h1) := List.getElem?_eq_getElem (by rw [data_len]; exact h1)
    rw [hts] at e1
    cases u with
    | nil => simp at hhd
    | cons d u =>
      simp at e1 hhd
      rw [← e1, hhd]
  have hs1 : ((ts.size : Int) == 1) = false := by rw [beq_eq_false_iff_ne]; omega
  have hwr : IntKind.i64.wrap ((ts.size : Int) - 1) = (m : Int) := by rw [IntKind.wrap_i64]; omega
  have hmi : (1 : Int) ≤ (m : Int) := by omega
  have hmt : (m : Int) ≤ (ts.size : Int) := by omega
  obtain ⟨inn, hin⟩ : ∃ x, x = ts.extract 1 m := ⟨_, rfl⟩
  have hinl : inn.data.toList = u.dropLast := by rw [hin, hx, BA_list]
  have hins : inn.size = m - 1 := by rw [← data_len, hinl, List.length_dropLast, hm]
  have hi1 : (1 : Int) ≤ (inn.size : Int) := by omega
  have hel : (inn.extract 1 inn.size).data.toList = (u.drop 1).dropLast := by rw [ext_list, hinl, drop_last]
  have hes : (inn.extract 1 inn.size).size = m - 2 := by rw [ByteArray.size_extract]; omega
  have hlg : lngL (rdC false) k u = .ok (runP (inn.extract 1 inn.size).data.toList) := by
    unfold lngL
    rw [if_pos hhd, hel]
  obtain ⟨q, hq⟩ : ∃ q, allW k = q := ⟨_, rfl⟩
  have HAL := hide (fun W => rallw_any k W hk)
  have HB : Hid (∀ w1, Below w.heap.size w w1 → Calls Tryz.prog 50 #[.pointer (some ⟨b, 0, none⟩), .string (inn.extract 1 inn.size), .bool q] w1 fun e w' => e = .returned (.tuple #[]) ∧ RAdds w b X (addP ps (setQ q (runP (inn.extract 1 inn.size).data.toList))) 0 w') := hide (fun w1 hb =>
    (rrun_any (inn.extract 1 inn.size) q w1 b X ps 0 (by omega) (h.below hb) ⟨by have := hr.1; omega, by have := hr.2; omega⟩).mono (fun e w' ⟨h1, h3⟩ => ⟨h1, h3.of_below hb⟩))
  rw [hq] at HAL
  rw [hlg]
  unfold lgTh
  rw [hq]
  have HIN := hide hin
  clear h hts hsz hr hx hm hu hhd hlg hel hes hinl hins hin hq
  go_enter Tryz.func31, Tryz.ntmps31
  go_upto_region 8 with fail
  rw [← unhide HIN]
  go_wp2_with fail
  go_region_with (first
    | (go_at_call 29; refine (unhide HAL _).mono ?_; rintro e w1 ⟨rfl, hw1⟩; have hw2 := hw1.symm; subst hw2; clear hw1)
    | (go_at_call 50; refine (unhide HB _ (below_drew _ _)).mono ?_; rintro e w2 ⟨rfl, a2⟩))
  all_goals
    go_wp2
    first | refine bodyPost_end (res0 rfl _ _) rfl ?_ | refine bodyPost_ret (res0 rfl _ _) rfl ?_
    exact ⟨rfl, a2⟩
end Go.Proofs.YtnamfjbfcbamjaaGreatDoor
namespace Go.Proofs.YtnamfjbfcbamjaaGreatDoor
open Go.RowKit
theorem thg_36h {f : Nat} {u rest : List UInt8} {wh d : Nat} (h : thg (f + 1) (36 :: (u ++ rest)) wh d = .ok rest) (hu : 2 ≤ u.length) : u.head? = some 123 ∨ u.head? = some 40 := by
  rw [thg_succ, if_neg (by decide), if_neg (by decide), if_neg (by decide), if_pos rfl] at h
  have hh : (u ++ rest).head? = u.head? := by cases u with
    | nil => simp at hu
    | cons _ _ => rfl
  rw [hh] at h
  split at h
  · next e => exact .inl e
  split at h
  · next e => exact .inr e
  · injection h with h
    have := congrArg List.length h
    simp at this
    rw [this] at hu
    simp at hu
theorem thg_one {f : Nat} {c : UInt8} {u rest : List UInt8} {wh d : Nat} (h : thg (f + 1) (c :: (u ++ rest)) wh d = .ok rest) (hwh : wh ≤ 1) (h92 : c ≠ 92) (h34 : c ≠ 34) (h39 : c ≠ 39) (h36 : c ≠ 36) : u = [] := by
  rw [thg_succ, if_neg h92, if_neg h34, if_neg h39, if_neg h36] at h
  have key : Rs.ok (u ++ rest) = .ok rest → u = [] := fun e => by
    injection e with e
    have := congrArg List.length e
    simp at this
    exact this
  split at h
  · rw [if_neg (by omega)] at h
    exact key h
  split at h
  · cases h
  · exact key h
theorem rthing_any {N : Nat} (hW : RWordN N) (k : Nat) (ts : ByteArray) (c : UInt8) (u rest : List UInt8) (wh : Nat) (w : World) (b : Nat) (X : Nat → Prop) (ps : List Prt) (hk : k < 6) (hwh : wh ≤ 1) (hts : ts.data.toList = c :: u) (hT : thg (3 * ((u ++ rest).length + 1) + 3) (c :: (u ++ rest)) wh 0 = .ok rest) (hnm : c = 36 → u = [] → nmdN rest = 0) (hN : ts.size ≤ N + 2) (hs : ts.size ≤ 4096) (h : RWt w b X ps 0) (hr : Room ps (2 * ts.size + 4)) :
    Calls Tryz.prog 31 #[.pointer (some ⟨b, 0, none⟩), .string ts, .int .i64 (k : Int)] w fun e w' => RTEnd (thnL (rdC false) k c u rest) w b X ps e w' := by
  by_cases h92 : c = 92
  · subst h92
    have : thnL (rdC false) k 92 u rest = .ok (pairL k u) rest := by unfold thnL; rw [if_pos rfl]
    rw [this]
    exact rth_92 k ts u rest w b X ps hk hts (by
      have := congrArg List.length (thg_92 hT)
      simp at this
      omega) h hr
  have b92 : ((c.toNat : Int) == 92) = false := byte_no (n := 92) (by omega) h92
  by_cases h39 : c = 39 ∧ u ≠ []
  · obtain ⟨rfl, hu⟩ := h39
    have : thnL (rdC false) k 39 u rest = .ok [litP u.dropLast true] rest := by unfold thnL; rw [if_neg h92, if_pos ⟨rfl, hu⟩]
    rw [this]
    exact rth_39 k ts u rest w b X ps hts hu hs h hr
  by_cases h34 : c = 34 ∧ u ≠ []
  · obtain ⟨rfl, hu⟩ := h34
    have : thnL (rdC false) k 34 u rest = dqTh rest (rdC false 2 u.dropLast).word := by
      unfold thnL
      rw [if_neg h92, if_neg h39, if_pos ⟨rfl, hu⟩]
      cases (rdC false 2 u.dropLast).word <;> simp only [dqTh]
    rw [this]
    exact rth_34 hW k ts u rest w b X ps hts hu hN hs h hr
  by_cases h36s : c = 36 ∧ u = []
  · obtain ⟨rfl, rfl⟩ := h36s
    have hz := hnm rfl rfl
    have : thnL (rdC false) k 36 [] rest = .ok [litP [36] true] rest := by
      unfold thnL
      rw [if_neg h92, if_neg h39, if_neg h34, if_pos ⟨rfl, rfl⟩, if_pos hz]
    rw [this]
    exact rth_one k ts 36 rest w b X ps true hk hts b92 (fun _ => by decide) (by cases allW k <;> rfl) h hr
  by_cases h36 : c = 36
  · subst h36
    have hu : u ≠ [] := fun e => h36s ⟨rfl, e⟩
    have : thnL (rdC false) k 36 u rest = lgTh k rest (lngL (rdC false) k u) := by
      unfold thnL
      rw [if_neg h92, if_neg h39, if_neg h34, if_neg h36s, if_pos rfl]
      cases lngL (rdC false) k u <;> simp only [lgTh]
    rw [this]
    have h2 := thg_36 hT hu
    rcases thg_36h (f := 3 * ((u ++ rest).length + 1) + 2) hT h2 with e | e
    · exact rth_brace hW k ts u rest w b X ps hk hts h2 e hN hs h hr
    · exact rth_run k ts u rest w b X ps hk hts h2 e hs h hr
  have hu : u = [] := by
    by_cases e39 : c = 39
    · exact Classical.byContradiction fun e => h39 ⟨e39, e⟩
    by_cases e34 : c = 34
    · exact Classical.byContradiction fun e => h34 ⟨e34, e⟩
    exact thg_one (f := 3 * ((u ++ rest).length + 1) + 2) hT hwh h92 e34 e39 h36
  subst hu
  have b36 : ((c.toNat : Int) == 36) = false := byte_no (n := 36) (by omega) h36
  have h0 : thnL (rdC false) k c [] rest = if k = 0 ∧ metB (c.toNat : Int) = true then .err 10 else .ok [litP [c] (allW k)] rest := by
    unfold thnL
    rw [if_neg h92, if_neg h39, if_neg h34, if_neg h36s, if_neg h36]
  rw [h0]
  by_cases hm : k = 0 ∧ metB (c.toNat : Int) = true
  · obtain ⟨rfl, hm⟩ := hm
    rw [if_pos ⟨rfl, hm⟩]
    exact rth_meta ts c w b X ps hts b92 hm h
  · rw [if_neg hm]
    exact rth_one k ts c rest w b X ps (allW k) hk hts b92 (fun e => by
      cases hmm : metB (c.toNat : Int) with
      | true => exact absurd ⟨e, hmm⟩ hm
      | false => rfl) (by rw [b36, Bool.or_false]) h hr
end Go.Proofs.YtnamfjbfcbamjaaGreatDoor

/-
  strings.Builder's WriteString at this program.
  Literal, the program's and the document's.
-/
import Derived.Test.YtnamfjbfcbamjaaGreatDoorP26
import Derived.Test.YtnamfjbfcbamjaaGreatDoorP27
namespace Go.Proofs.YtnamfjbfcbamjaaGreatDoor
open Go.RowKit
theorem und_bptr : Tryz.prog.underlying 48 = some (.pointer 51) := by kernel_rfl
theorem und_unsafe : Tryz.prog.underlying 87 = some .unsafePointer := by kernel_rfl
theorem size_bld : (Tryz.prog.info? 51).map (·.size) = some 2 := by kernel_rfl
theorem lies_bld : liesAt Tryz.prog Tryz.prog.depth 51 (2 / Tryz.prog.cellsOf 51) 0 51 1 = true := by kernel_rfl
set_option maxRecDepth 20000 in
set_option maxHeartbeats 1000000 in
theorem check_used (b : Nat) (w : World) (h0 : w.cell? ⟨b, 0, none⟩ = some (.pointer (some ⟨b, 0, none⟩))) :
    Calls Tryz.prog 39 #[.pointer (some ⟨b, 0, none⟩)] w fun e w' => e = .returned (.tuple #[]) ∧ w' = w := by
  obtain ⟨j, hj, _⟩ := Option.map_eq_some_iff.1 size_bld
  have hq := Lib.run_neq_ptr_same w ⟨b, 0, none⟩ und_bptr hj
  go_enter Tryz.func39, Tryz.ntmps39
  go_wp2
  refine bodyPost_end (res0 rfl _ _) rfl ?_
  exact ⟨rfl, rfl⟩
set_option maxRecDepth 20000 in
set_option maxHeartbeats 1000000 in
theorem check_fresh (b : Nat) (w : World) (h0 : w.cell? ⟨b, 0, none⟩ = some (.pointer none)) (hsh : w.shape? b = some (51, 2)) (hfz : w.frozen? ⟨b, 0, none⟩ = false) :
    Calls Tryz.prog 39 #[.pointer (some ⟨b, 0, none⟩)] w fun e w' => e = .returned (.tuple #[]) ∧ w' = w.setCell ⟨b, 0, none⟩ (.pointer (some ⟨b, 0, none⟩)) := by
  obtain ⟨j, hj, hjs⟩ := Option.map_eq_some_iff.1 size_bld
  have ht := Lib.run_to_unsafe w ⟨b, 0, none⟩ und_bptr und_unsafe hj (by rw [hjs]; decide) hsh (Nat.zero_lt_succ 1)
  have hf := Lib.run_from_unsafe w ⟨b, 0, none⟩ und_unsafe und_bptr hj hsh lies_bld
  go_enter Tryz.func39, Tryz.ntmps39
  go_wp2
  rw [run_callFunc_extern Tryz.func60 (by kernel_rfl) (by kernel_rfl) (by kernel_rfl) (e := Extern.AbiNoEscape.same) (by kernel_rfl)]
  rw [Lib.run_noEscape]
  simp only [Result.andThen]
  rw [Oper.upon_value]
  go_wp2
  refine bodyPost_end (res0 rfl _ _) rfl ?_
  exact ⟨rfl, rfl⟩
theorem check_any (B b : Nat) (bs : List Value) (w : World) (h : Lib.IsBuilder 51 5 B b bs w) :
    Calls Tryz.prog 39 #[.pointer (some ⟨b, 0, none⟩)] w fun e w' => e = .returned (.tuple #[]) ∧ Lib.BuilderAt 51 5 B b (.pointer (some ⟨b, 0, none⟩)) bs w' ∧ Below B w w' := by
  rcases h with h | h
  · refine (check_fresh b w h.cell0 h.shape h.frozen0).mono ?_
    rintro e w' ⟨rfl, rfl⟩
    exact ⟨rfl, h.used _, (Below.refl B w).setCell (p := ⟨b, 0, none⟩) h.1 _⟩
  · refine (check_used b w h.cell0).mono ?_
    rintro e w' ⟨rfl, rfl⟩
    exact ⟨rfl, h, Below.refl B _⟩
set_option maxRecDepth 20000 in
set_option maxHeartbeats 2000000 in
theorem write_any (B b : Nat) (l : List UInt8) (s : ByteArray) (w : World) (h : Lib.IsBuilder 51 5 B b (Lib.byteCells l) w) (hlen : l.length + s.size ≤ 140737488355328) (hBw : B ≤ w.heap.size) :
    Calls Tryz.prog 24 #[.pointer (some ⟨b, 0, none⟩), .string s] w fun e w' => e = .returned (.tuple #[.int .i64 s.size, .nilIface]) ∧ Lib.IsBuilder 51 5 B b (Lib.byteCells (l ++ s.data.toList)) w' ∧ Below B w w' := by
  obtain ⟨i0, hi, hz0, hz1, hz2⟩ := info_of info_byte
  have hcl : (Lib.byteCells l).length = l.length := by simp [Lib.byteCells]
  have HC := hide (check_any B b _ w h)
  clear h
  go_enter Tryz.func24, Tryz.ntmps24
  go_wp2_with fail
  refine (unhide HC).mono ?_
  rintro e w1 ⟨rfl, ⟨hB, v, hbk, hown, hne⟩, hb1⟩
  have c1 : w1.cell? ⟨b, 1, none⟩ = some v := by rw [Lib.cell_of_heap hbk]; rfl
  clear HC
  go_wp2_with (first
    | (at_builtin; refine Lib.wpList_append_own_string _ rfl (.tmp 12) (.tmp 13) 49 9 rfl B 5 i0 und_bytes und_str hi hz0 hz1 hz2 _ _ _ rfl hown s rfl ?c3 ?c4 ?c5 ?_)
    | go_in)
  case c3 => unfold maxLen; omega
  case c4 => omega
  case c5 => have := hb1.size; omega
  intro v' w2 hown' hgrow _
  have hlt : b < w1.heap.size := (Array.getElem?_eq_some_iff.1 hbk).1
  have hb2 : w2.heap[b]? = some (.cells #[.pointer (some ⟨b, 0, none⟩), v] 51 (0, 0)) := by
    rw [hgrow.block b hlt (fun e => hne e.symm)]
    exact hbk
  have d1 : w2.cell? ⟨b, 1, none⟩ = some v := by rw [Lib.cell_of_heap hb2]; rfl
  have f1 : w2.frozen? ⟨b, 1, none⟩ = false := Lib.frozen_of_heap hb2 1
  obtain ⟨ao, n', cap, rfl⟩ : ∃ ao n' cap, v' = .slice ao n' cap := by
    rcases hown'.2 with ⟨hv, _⟩ | ⟨g, cap, cur, hv, _⟩
    · exact ⟨_, _, _, hv⟩
    · exact ⟨_, _, _, hv⟩
  have hcs : Lib.byteCells l ++ Lib.strCells s = Lib.byteCells (l ++ s.data.toList) := by rw [byteCells_append]; rfl
  have HO := hide (show w2.ownsRow B 5 1 (.slice ao n' cap) (Lib.byteCells (l ++ s.data.toList)).length (Lib.byteCells (l ++ s.data.toList)) by
    rw [← hcs, List.length_append, Lib.strCells_length, hcl]; exact hown')
  have HG := hide hgrow
  have HW := hide hown
  have HH := hide hb2
  clear hcs hown' hgrow hown hb2 hcl hbk hne
  go_wp2
  go_ret2
  refine ⟨rfl, .inr ?_, ?_⟩
  · exact Lib.BuilderAt.put (T := 51) (e := 5) hB (unhide HH) (unhide HO) (by decide)
  · exact (hb1.grown (unhide HG) (by have := hb1.size; omega) (fun k hk => ((unhide HW).lt k hk).1)).setCell (p := ⟨b, 1, none⟩) hB _
end Go.Proofs.YtnamfjbfcbamjaaGreatDoor
namespace Go.Proofs.YtnamfjbfcbamjaaGreatDoor
open Go.RowKit
def litR (l : List Prt) : List UInt8 × Bool := if l.all (fun p => p.kind == 1) then (l.flatMap Prt.text, true) else ([], false)
theorem litR_yes {l : List Prt} (h : ∀ p, p ∈ l → p.kind = 1) : litR l = (l.flatMap Prt.text, true) := by
  unfold litR
  rw [if_pos (List.all_eq_true.2 (fun p hp => by rw [h p hp]; rfl))]
theorem litR_no {l : List Prt} {p : Prt} (hp : p ∈ l) (h : p.kind ≠ 1) : litR l = ([], false) := by
  unfold litR
  rw [if_neg]
  intro e
  have := List.all_eq_true.1 e p hp
  exact h (by simpa using this)
theorem txt_len : ∀ l : List Prt, (l.flatMap Prt.text).length ≤ tszL l
  | [] => by simp
  | p :: r => by
    have := txt_len r
    rw [List.flatMap_cons, List.length_append, tszL_cons, tszP_eq]
    omega
theorem txt_one (l : List Prt) (j : Nat) (p : Prt) (h : l[j]? = some p) : (l.take (j + 1)).flatMap Prt.text = (l.take j).flatMap Prt.text ++ p.text := by
  obtain ⟨h1, h2⟩ := List.getElem?_eq_some_iff.1 h
  rw [List.take_succ_eq_append_getElem h1, h2]
  simp
theorem all_one {l : List Prt} {j : Nat} {p : Prt} (h : l[j]? = some p) (ha : ∀ q, q ∈ l.take j → q.kind = 1) (hp : p.kind = 1) : ∀ q, q ∈ l.take (j + 1) → q.kind = 1 := by
  obtain ⟨h1, h2⟩ := List.getElem?_eq_some_iff.1 h
  rw [List.take_succ_eq_append_getElem h1, h2]
  intro q hq
  simp at hq
  rcases hq with hq | hq
  · exact ha q hq
  · rw [hq]; exact hp
theorem bldAt_keep {T e : TypeId} {B bb : Nat} {x : Value} {bs : List Value} {w w1 : World} (h : Lib.BuilderAt T e B bb x bs w) (hg : Below w.heap.size w w1) : Lib.BuilderAt T e B bb x bs w1 := by
  obtain ⟨h1, v, h2, h3, h4⟩ := h
  have hg' : GrownS w w1 (fun _ => False) := grownS_of_below hg
  exact ⟨h1, v, (hg.block bb (Array.getElem?_eq_some_iff.1 h2).1).trans h2, own_grownS h3 hg' (fun _ _ e => e), h4⟩
theorem bld_keep {T e : TypeId} {B bb : Nat} {bs : List Value} {w w1 : World} (h : Lib.IsBuilder T e B bb bs w) (hg : Below w.heap.size w w1) : Lib.IsBuilder T e B bb bs w1 := by
  rcases h with h | h
  · exact .inl (bldAt_keep h hg)
  · exact .inr (bldAt_keep h hg)
set_option maxRecDepth 20000 in
set_option maxHeartbeats 8000000 in
theorem literal_any (ps : List Prt) (v : Value) (A : Nat → Prop) (w : World) (hv : WAt w A v ps) (hA : ∀ j, A j → j < w.heap.size) (hz : tszL ps ≤ 1000) :
    Calls Tryz.prog 16 #[v] w fun e w' => e = .returned (.tuple #[.string (BA (litR ps).1), .bool (litR ps).2]) ∧ Below w.heap.size w w' := by
  obtain ⟨va, vc, rfl, hlen⟩ := hv.len
  have HS0 : Hid (Lib.IsBuilder 51 5 w.heap.size w.heap.size (Lib.byteCells []) (w.alloc (.cells #[.pointer none, .slice none 0 0] 51)) ∧ Below w.heap.size w (w.alloc (.cells #[.pointer none, .slice none 0 0] 51))) := hide ⟨Lib.fresh_isBuilder _ _ w, (Below.refl _ _).alloc (Nat.le_refl _) _⟩
  have HV := hide hv
  have HA := hide hA
  have HZ := hide hz
  clear hv hA hz
  go_enter Tryz.func16, Tryz.ntmps16
  go_wp2_with fail
  go_loopw [9] (fun i wr => ∃ j : Nat, j ≤ ps.length ∧ i = .int .i64 j ∧ Hid (Lib.IsBuilder 51 5 w.heap.size w.heap.size (Lib.byteCells ((ps.take j).flatMap Prt.text)) wr ∧ Below w.heap.size w wr) ∧ Hid (∀ q, q ∈ ps.take j → q.kind = 1)) (fun i _ => ps.length - (intOf i).toNat)
  case atStart => exact ⟨0, Nat.zero_le _, rfl, HS0, hide (by simp)⟩
  case round =>
    clear HS0
    obtain ⟨j, hj, rfl, HS, HK⟩ := hrel
    by_cases hlt : j < ps.length
    · obtain ⟨p, hp⟩ := get_ex hlt
      have hwat : WAt wr A (.slice va ps.length vc) ps := (unhide HV).below (unhide HS).2 (unhide HA)
      obtain ⟨g, o, sv, had, hg, c0, c1, c2, c3, c4, c5, hsub⟩ := hwat.part hp
      have hgr : g < wr.heap.size := by have := unhide HA g hg; have := (unhide HS).2.size; omega
      have hlt1 : (j : Int) < (ps.length : Int) := by omega
      obtain ⟨sa, sc, rfl, _⟩ := hsub.len
      have HP := hide hp
      subst had
      by_cases hk1 : p.kind = 1
      · have HWR : Hid (∀ ob, Calls Tryz.prog 24 #[.pointer (some ⟨w.heap.size, 0, none⟩), .string (BA p.text)] (wr.alloc ob) fun e w' => e = .returned (.tuple #[.int .i64 (BA p.text).size, .nilIface]) ∧ Lib.IsBuilder 51 5 w.heap.size w.heap.size (Lib.byteCells ((ps.take (j + 1)).flatMap Prt.text)) w' ∧ Below w.heap.size w w') := hide (fun ob => by
          have hb : Below wr.heap.size wr (wr.alloc ob) := (Below.refl _ _).alloc (Nat.le_refl _) _
          have h1 := txt_len (ps.take (j + 1))
          have h2 := tszL_take ps (j + 1)
          have h3 := unhide HZ
          rw [txt_one ps j p (unhide HP)] at h1
          have := write_any w.heap.size w.heap.size ((ps.take j).flatMap Prt.text) (BA p.text) (wr.alloc ob) (bld_keep (unhide HS).1 hb) (by simp at h1 ⊢; omega) (by have := (unhide HS).2.size; simp; omega)
          refine this.mono ?_
          rintro e w' ⟨rfl, h4, h5⟩
          refine ⟨rfl, ?_, (unhide HS).2.trans ((hb.mono (unhide HS).2.size).trans h5)⟩
          rw [txt_one ps j p (unhide HP)]
          rwa [show (BA p.text).data.toList = p.text by simp] at h4)
        have HK2 := hide (all_one (unhide HP) (unhide HK) hk1)
        rw [hk1] at c0
        clear hp hwat hsub hg HS hk1 HK
        go_wp2_with fail
        refine (unhide HWR _).mono ?_
        rintro e w3 ⟨rfl, a3⟩
        have HD := hide a3
        clear a3
        go_wp2
        go_roundw
        case rel => exact ⟨j + 1, by omega, by go_num, HD, HK2⟩
        case measure => simp [intOf]; omega
      · have HR := hide (litR_no (List.mem_of_getElem? hp) hk1)
        have HB : Hid (∀ ob, Below w.heap.size w (wr.alloc ob)) := hide (fun ob => (unhide HS).2.alloc (unhide HS).2.size _)
        obtain ⟨kd, hkd⟩ : ∃ kd, p.kind = kd := ⟨_, rfl⟩
        rw [hkd] at c0 hk1
        have hk2 : (kd != 1) = true := by simpa using hk1
        clear hp hwat hsub hg HS hk1 hkd HK
        go_wp2
        go_ret2
        rw [unhide HR]
        exact ⟨rfl, unhide HB _⟩
    · have hje : ¬ (j : Int) < (ps.length : Int) := by omega
      have HR : Hid (litR ps = (ps.flatMap Prt.text, true)) := hide (litR_yes (by have := unhide HK; rwa [List.take_of_length_le (by omega)] at this))
      have HBS : Hid (Calls Tryz.prog 25 #[.pointer (some ⟨w.heap.size, 0, none⟩)] wr fun e w' => e = .returned (.string (BA (ps.flatMap Prt.text))) ∧ Below w.heap.size w w') := hide (by
        have h1 := (unhide HS).1
        rw [List.take_of_length_le (by omega)] at h1
        refine (Tryz.Builder_String_any w.heap.size w.heap.size _ wr h1 (unhide HS).2.size).mono ?_
        rintro e w' ⟨rfl, h5⟩
        exact ⟨rfl, (unhide HS).2.trans h5⟩)
      clear HS HK
      go_wp2_with fail
      refine (unhide HBS).mono ?_
      rintro e w3 ⟨rfl, b3⟩
      have HB := hide b3
      clear b3
      go_wp2
      go_ret2
      rw [unhide HR]
      exact ⟨rfl, unhide HB⟩
set_option maxRecDepth 20000 in
set_option maxHeartbeats 8000000 in
theorem rliteral_any (ps : List Prt) (v : Value) (A : Nat → Prop) (w : World) (hv : WAt w A v ps) (hz : tszL ps ≤ 1000) :
    Calls Tryz.prog 17 #[v] w fun e w' => e = .returned (.tuple #[.string (BA (litR ps).1), .bool (litR ps).2]) ∧ w' = w := by
  obtain ⟨va, vc, rfl, hlen⟩ := hv.len
  have HV := hide hv
  have HZ := hide hz
  clear hv hz
  go_enter Tryz.func17, Tryz.ntmps17
  go_wp2_with fail
  go_loopw [4, 5] (fun s i wr => ∃ j : Nat, j ≤ ps.length ∧ i = .int .i64 j ∧ wr = w ∧ s = .string (BA ((ps.take j).flatMap Prt.text)) ∧ Hid (∀ q, q ∈ ps.take j → q.kind = 1)) (fun _ i _ => ps.length - (intOf i).toNat)
  case atStart => exact ⟨0, Nat.zero_le _, rfl, rfl, rfl, hide (by simp)⟩
  case round =>
    obtain ⟨j, hj, rfl, rfl, rfl, HK⟩ := hrel
    have hal : ((ps.take j).flatMap Prt.text).length ≤ 1000 := by
      have h1 := txt_len (ps.take j)
      have h2 := tszL_take ps j
      have h3 := unhide HZ
      omega
    obtain ⟨acc, hacc⟩ : ∃ acc, (ps.take j).flatMap Prt.text = acc := ⟨_, rfl⟩
    rw [hacc] at hal ⊢
    have HAC := hide hacc
    clear hacc
    by_cases hlt : j < ps.length
    · obtain ⟨p, hp⟩ := get_ex hlt
      obtain ⟨g, o, sv, had, hg, c0, c1, c2, c3, c4, c5, hsub⟩ := (unhide HV).part hp
      have hlt1 : (j : Int) < (ps.length : Int) := by omega
      have HP := hide hp
      subst had
      by_cases hk1 : p.kind = 1
      · have hcat : BA acc ++ BA p.text = BA ((ps.take (j + 1)).flatMap Prt.text) := by
          rw [txt_one ps j p hp, unhide HAC]
          apply ba_ext
          simp
        have HC := hide hcat
        have hpl : p.text.length ≤ 1000 := by
          have h1 := txt_len (ps.take (j + 1))
          have h2 := tszL_take ps (j + 1)
          have h3 := unhide HZ
          rw [txt_one ps j p hp, List.length_append] at h1
          omega
        have HK2 := hide (all_one hp (unhide HK) hk1)
        rw [hk1] at c0
        clear hp hsub hg hk1 HK hcat
        go_wp2
        go_roundw
        case rel => exact ⟨j + 1, by omega, by go_num, by first | rfl | trivial, congrArg Value.string (unhide HC), HK2⟩
        case measure => simp [intOf]; omega
      · have HR := hide (litR_no (List.mem_of_getElem? hp) hk1)
        obtain ⟨kd, hkd⟩ : ∃ kd, p.kind = kd := ⟨_, rfl⟩
        rw [hkd] at c0 hk1
        have hk2 : (kd != 1) = true := by simpa using hk1
        clear hp hsub hg hk1 hkd HK
        go_wp2
        go_ret2
        rw [unhide HR]
        exact ⟨rfl, rfl⟩
    · have hje : ¬ (j : Int) < (ps.length : Int) := by omega
      have HR : Hid (litR ps = (acc, true)) := hide (by
        rw [litR_yes (by have := unhide HK; rwa [List.take_of_length_le (by omega)] at this), ← unhide HAC, List.take_of_length_le (by omega)])
      clear HK
      go_wp2
      go_ret2
      rw [unhide HR]
      exact ⟨rfl, rfl⟩
end Go.Proofs.YtnamfjbfcbamjaaGreatDoor

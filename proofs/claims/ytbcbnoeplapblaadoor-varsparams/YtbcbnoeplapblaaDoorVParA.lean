/-
  Param: the program's, the document's.
-/
import Derived.Test.YtbcbnoeplapblaaDoorVBack
import Derived.Test.YtbcbnoeplapblaaDoorRVOps
import Derived.Test.YtbcbnoeplapblaaDoorVPar
namespace Go.Proofs.YtbcbnoeplapblaaDoor
open Go.RowKit Go.Maps

/-- What stands for a parameter. -/
def parS (s : VSt) (p : List UInt8) : List UInt8 × Bool :=
  if p = [35] then (Lib.itoa s.args.length, true)
  else if p = [63] then (Lib.itoa s.st, true)
  else if p = [64] ∨ p = [42] then (Lib.join s.args [32], decide (0 < s.args.length))
  else if namL p = true then ((getL s.L p).value, (getL s.L p).set)
  else nmbS s p
def Pow (w : World) : Prop := Lib.TabIs Tryd.prog w "internal/strconv.uint64pow10" .u64 Lib.pow10Tab
theorem gPow : Tryd.prog.globalNamed "internal/strconv.uint64pow10" = some (Tryd.prog.globalNamed "internal/strconv.uint64pow10").get! := by kernel_rfl
theorem Pow.below {w w' : World} (h : Pow w) (hb : Below w.heap.size w w') : Pow w' := Joins.tab_stays gPow h hb (Nat.le_refl _)
theorem map_BA (l : List (List UInt8)) : (l.map BA).map (·.data.toList) = l := by
  rw [List.map_map]
  exact List.map_id l
theorem join_len (l : List (List UInt8)) (hl : l.length ≤ 20) (hx : ∀ x ∈ l, x.length ≤ 200) : (Lib.join l [32]).length ≤ 8000 := by
  have h := outL_len (l.map BA) ⟨#[32]⟩ (by decide) (fun j hj => by
    rw [List.getElem_map, BA_size]
    exact hx _ (List.getElem_mem _)) l.length (by simp)
  unfold outL at h
  rw [List.take_of_length_le (by simp), map_BA] at h
  have : (Lib.join l [32]).length ≤ 400 * l.length := h
  omega
theorem joinP_any (u : Value) (l : List (List UInt8)) (w : World) (h : AIn w u l) (hc : RoomOk u) (hl : l.length ≤ 20) (hx : ∀ x ∈ l, x.length ≤ 200) :
    Calls Tryd.prog 59 #[.string ⟨#[32]⟩, u] w fun e w' => e = .returned (.string (BA (Lib.join l [32]))) ∧ Below w.heap.size w w' := by
  obtain ⟨ad, cap, rfl, hm, h0 | ⟨g, o, rfl, hg, hcell⟩⟩ := h
  · subst h0
    refine (join_none ad cap ⟨#[32]⟩ w).mono ?_
    rintro e w' ⟨rfl, rfl⟩
    exact ⟨rfl, Below.refl _ _⟩
  · have hj := join_len l hl hx
    have := join_some g o cap (l.map BA) ⟨#[32]⟩ w (fun j x hjx => by
      rw [List.getElem?_map] at hjx
      obtain ⟨y, hy, rfl⟩ := Option.map_eq_some_iff.1 hjx
      exact hcell j y hy) hg (by simp; omega) (by simpa using hc _ _ _ rfl) (by rw [map_BA]; exact Nat.le_trans hj (by omega))
    rw [map_BA, List.length_map] at this
    exact this
theorem joinR_any (u : Value) (l : List (List UInt8)) (w : World) (h : AIn w u l) (hl : l.length ≤ 20) (hx : ∀ x ∈ l, x.length ≤ 200) :
    Calls Tryd.prog 46 #[.string ⟨#[32]⟩, u] w fun e w' => e = .returned (.string (BA (Lib.join l [32]))) ∧ w' = w := by
  obtain ⟨ad, cap, rfl, hm, h0 | ⟨g, o, rfl, hg, hcell⟩⟩ := h
  · subst h0
    exact rjoin_none ad cap ⟨#[32]⟩ w
  · have := rjoin_some g o cap (l.map BA) ⟨#[32]⟩ w (fun j hj => by
      rw [List.getElem_map]
      exact hcell j _ (List.getElem?_eq_getElem (by simpa using hj))) (by simp; omega) (by decide) (fun j hj => by
      rw [List.getElem_map, BA_size]
      exact hx _ (List.getElem_mem _))
    rw [map_BA, List.length_map] at this
    exact this
set_option maxRecDepth 20000 in
set_option maxHeartbeats 4000000 in
theorem count_any (b : Nat) (X : Nat → Prop) (s : VSt) (w : World) (h : VAt w b X s) :
    Calls Tryd.prog 39 #[.pointer (some ⟨b, 0, none⟩)] w fun e w' => e = .returned (.int .i64 (s.args.length : Int)) ∧ w' = w := by
  obtain ⟨u, m, hb, hau, _⟩ := h
  have c1 : w.cell? ⟨b, 1, none⟩ = some u := hb.cell 1 rfl
  obtain ⟨ad, cap, hu, hcap, hcm⟩ := hau.len
  subst hu
  clear hb hau
  go_enter Tryd.func39, Tryd.ntmps39
  go_wp2
  go_ret
  exact ⟨rfl, rfl⟩
set_option maxRecDepth 20000 in
set_option maxHeartbeats 4000000 in
theorem joined_any (b : Nat) (X : Nat → Prop) (s : VSt) (w : World) (h : VAt w b X s) (hl : s.args.length ≤ 20) (hx : ∀ x ∈ s.args, x.length ≤ 200) :
    Calls Tryd.prog 40 #[.pointer (some ⟨b, 0, none⟩)] w fun e w' => e = .returned (.tuple #[.string (BA (Lib.join s.args [32])), .bool (decide (0 < s.args.length))]) ∧ Below w.heap.size w w' := by
  obtain ⟨u, m, hb, hau, _⟩ := h
  have hbl := hb.lt
  have c1 : w.cell? ⟨b, 1, none⟩ = some u := hb.cell 1 rfl
  have hin : AIn w.drew u s.args := hau.read.below (below_drew w 1)
  obtain ⟨ad, cap, hu, hcap, hcm⟩ := hau.len
  have hrm : RoomOk u := fun a n c e => by rw [hu] at e; injection e with _ e2 e3; omega
  have HJ : Hid (Calls Tryd.prog 59 #[.string ⟨#[32]⟩, u] w.drew fun e w' => e = .returned (.string (BA (Lib.join s.args [32]))) ∧ w'.cell? ⟨b, 1, none⟩ = some u ∧ Hid (Below w.heap.size w w')) := hide (by
    refine (joinP_any u s.args w.drew hin hrm hl hx).mono ?_
    rintro e w' ⟨h1, h2⟩
    have hB : Below w.heap.size w w' := (below_drew w 1).trans h2
    exact ⟨h1, (hB.cell (p := ⟨b, 1, none⟩) hbl).trans c1, hide hB⟩)
  subst hu
  obtain ⟨n, hn⟩ : ∃ n, n = s.args.length := ⟨_, rfl⟩
  obtain ⟨J, hJ⟩ : ∃ J, J = Lib.join s.args [32] := ⟨_, rfl⟩
  rw [← hn] at c1 HJ ⊢
  rw [← hJ] at HJ ⊢
  clear hb hau hin hrm hJ hn hl hx hcap hcm hbl
  go_enter Tryd.func40, Tryd.ntmps40
  go_wp2_with fail
  go_region_held3 (fun w' => w'.cell? ⟨b, 1, none⟩ = some (.slice ad n cap)) (go_keep) ((go_at_call 59; refine (unhide HJ).mono ?_; rintro e w2 ⟨rfl, d1, HE⟩))
  go_wp2
  go_ret2
  exact ⟨by simp, unhide HE⟩
set_option maxRecDepth 20000 in
set_option maxHeartbeats 4000000 in
theorem param_any (b : Nat) (X : Nat → Prop) (s : VSt) (p : List UInt8) (w : World) (h : VAt w b X s) (ht : Pow w) (hp : p.length ≤ 100000) (hl : s.args.length ≤ 20) (hx : ∀ x ∈ s.args, x.length ≤ 200) (hs : -9223372036854775808 ≤ s.st ∧ s.st ≤ 9223372036854775807) :
    Calls Tryd.prog 13 #[.pointer (some ⟨b, 0, none⟩), .string (BA p)] w fun e w' => e = .returned (.tuple #[.string (BA (parS s p).1), .bool (parS s p).2]) ∧ Below w.heap.size w w' := by
  unfold parS
  by_cases h35 : p = [35]
  · subst h35
    rw [if_pos rfl]
    have HC := hide (count_any b X s w h)
    have HT : Hid (Calls Tryd.prog 38 #[.int .i64 (s.args.length : Int)] w fun e w' => e = .returned (.string (BA (Lib.itoa s.args.length))) ∧ Below w.heap.size w w') := hide (text_any _ w ht (by omega) (by omega))
    obtain ⟨T, hT⟩ : ∃ T, T = Lib.itoa s.args.length := ⟨_, rfl⟩
    rw [← hT] at HT ⊢
    clear h ht hs hx hT
    have y35 : ((BA [35]).toList == [35]) = true := by rw [BA_toList]; rfl
    go_enter Tryd.func13, Tryd.ntmps13
    go_wp2_with fail
    refine (unhide HC).mono ?_
    rintro e w1 ⟨rfl, hw1⟩
    rw [show w1 = w from hw1]
    clear hw1
    go_wp2_with fail
    refine (unhide HT).mono ?_
    rintro e w1 ⟨rfl, hB⟩
    have HB := hide hB
    clear hB
    go_wp2
    go_ret2
    exact ⟨rfl, unhide HB⟩
  rw [if_neg h35]
  by_cases h63 : p = [63]
  · subst h63
    rw [if_pos rfl]
    obtain ⟨u, m, hb, _⟩ := h
    have c3 : w.cell? ⟨b, 3, none⟩ = some (.int .i64 s.st) := hb.cell 3 rfl
    have HT : Hid (Calls Tryd.prog 38 #[.int .i64 s.st] w fun e w' => e = .returned (.string (BA (Lib.itoa s.st))) ∧ Below w.heap.size w w') := hide (text_any _ w ht hs.1 hs.2)
    obtain ⟨T, hT⟩ : ∃ T, T = Lib.itoa s.st := ⟨_, rfl⟩
    rw [← hT] at HT ⊢
    clear hb ht hs hx hT h35
    have q35 := lst_no (l := [63]) (m := [35]) (by decide)
    have y63 : ((BA [63]).toList == [63]) = true := by rw [BA_toList]; rfl
    go_enter Tryd.func13, Tryd.ntmps13
    go_wp2_with fail
    refine (unhide HT).mono ?_
    rintro e w1 ⟨rfl, hB⟩
    have HB := hide hB
    clear hB
    go_wp2
    go_ret2
    exact ⟨rfl, unhide HB⟩
  rw [if_neg h63]
  by_cases h64 : p = [64]
  · subst h64
    rw [if_pos (.inl rfl)]
    have HJ := hide (joined_any b X s w h hl hx)
    obtain ⟨T, hT⟩ : ∃ T, T = Lib.join s.args [32] := ⟨_, rfl⟩
    obtain ⟨B, hB⟩ : ∃ B, B = decide (0 < s.args.length) := ⟨_, rfl⟩
    rw [← hT, ← hB] at HJ ⊢
    clear h ht hs hx hT hB h35 h63
    have q35 := lst_no (l := [64]) (m := [35]) (by decide)
    have q63 := lst_no (l := [64]) (m := [63]) (by decide)
    have y64 : ((BA [64]).toList == [64]) = true := by rw [BA_toList]; rfl
    go_enter Tryd.func13, Tryd.ntmps13
    go_wp2_with fail
    refine (unhide HJ).mono ?_
    rintro e w1 ⟨rfl, hB⟩
    have HB := hide hB
    clear hB
    go_wp2
    go_ret2
    exact ⟨rfl, unhide HB⟩
  by_cases h42 : p = [42]
  · subst h42
    rw [if_pos (.inr rfl)]
    have HJ := hide (joined_any b X s w h hl hx)
    obtain ⟨T, hT⟩ : ∃ T, T = Lib.join s.args [32] := ⟨_, rfl⟩
    obtain ⟨B, hB⟩ : ∃ B, B = decide (0 < s.args.length) := ⟨_, rfl⟩
    rw [← hT, ← hB] at HJ ⊢
    clear h ht hs hx hT hB h35 h63 h64
    have q35 := lst_no (l := [42]) (m := [35]) (by decide)
    have q63 := lst_no (l := [42]) (m := [63]) (by decide)
    have q64 := lst_no (l := [42]) (m := [64]) (by decide)
    have y42 : ((BA [42]).toList == [42]) = true := by rw [BA_toList]; rfl
    go_enter Tryd.func13, Tryd.ntmps13
    go_wp2_with fail
    refine (unhide HJ).mono ?_
    rintro e w1 ⟨rfl, hB⟩
    have HB := hide hB
    clear hB
    go_wp2
    go_ret2
    exact ⟨rfl, unhide HB⟩
  rw [if_neg (fun e => e.elim h64 h42)]
  by_cases hn : namL p = true
  · rw [if_pos hn]
    have HN := hide (name_any p w hp)
    rw [hn] at HN
    have HG := hide (get_any b X s p w h hp)
    obtain ⟨⟨xn, xv, xs, xe, xr⟩, hX⟩ : ∃ x, x = getL s.L p := ⟨_, rfl⟩
    rw [← hX] at HG ⊢
    simp only at HG ⊢
    have q35 := lst_no (l := p) (m := [35]) h35
    have q63 := lst_no (l := p) (m := [63]) h63
    have q64 := lst_no (l := p) (m := [64]) h64
    have q42 := lst_no (l := p) (m := [42]) h42
    clear h ht hs hx hn hX h35 h63 h64 h42
    go_enter Tryd.func13, Tryd.ntmps13
    go_wp2_with fail
    refine (unhide HN).mono ?_
    rintro e w1 ⟨rfl, hw1⟩
    rw [show w1 = w from hw1]
    clear hw1
    go_wp2_with fail
    refine (unhide HG).mono ?_
    rintro e w1 ⟨rfl, hB⟩
    have HB := hide hB
    clear hB
    go_wp2
    go_ret2
    exact ⟨rfl, unhide HB⟩
  · rw [if_neg hn]
    refine (param_num b X s p w h hp (by omega) h35 h63 h64 h42 (by simpa using hn)).mono ?_
    rintro e w' ⟨h1, h2⟩
    exact ⟨h1, by rw [show w' = w from h2]; exact Below.refl _ _⟩
theorem AIn.drew {w : World} {v : Value} {l : List (List UInt8)} (h : AIn w v l) : AIn w.drew v l := h.below (below_drew w 1)
set_option maxRecDepth 20000 in
set_option maxHeartbeats 4000000 in
theorem rparam_any (w0 w : World) (b : Nat) (Y : Nat → Prop) (s : VSt) (p : List UInt8) (h : RAt w0 w b Y s) (hp : p.length ≤ 100000) (hL : s.L.length ≤ 1000) (hl : s.args.length ≤ 20) (hx : ∀ x ∈ s.args, x.length ≤ 200) (hs : -9223372036854775808 ≤ s.st ∧ s.st ≤ 9223372036854775807) :
    Calls Tryd.prog 14 #[.pointer (some ⟨b, 0, none⟩), .string (BA p)] w fun e w' => e = .returned (.tuple #[.string (BA (parS s p).1), .bool (parS s p).2]) ∧ Below w.heap.size w w' := by
  have HRA := hide h
  obtain ⟨lv, av, hb, _, _, ha, _, hw0, _, hB0⟩ := id h
  have hbl := hb.lt
  have c1 : w.cell? ⟨b, 1, none⟩ = some (.string (BA s.zero)) := hb.cell 1 rfl
  have c2 : w.cell? ⟨b, 2, none⟩ = some av := hb.cell 2 rfl
  have c3 : w.cell? ⟨b, 3, none⟩ = some (.int .i64 s.st) := hb.cell 3 rfl
  have HA := hide (ha.below hB0)
  obtain ⟨ad, cap, hav, _⟩ := id ha
  obtain ⟨n, hn⟩ : ∃ n, n = s.args.length := ⟨_, rfl⟩
  rw [← hn] at hav
  subst hav
  clear hb ha hw0 hB0
  unfold parS
  by_cases h35 : p = [35]
  · subst h35
    rw [if_pos rfl]
    have HT : Hid (Calls Tryd.prog 45 #[.int .i64 (n : Int)] w fun e w' => e = .returned (.string (BA (Lib.itoa n))) ∧ Below w.heap.size w w') := hide (rtext_any _ w (by omega) (by omega))
    rw [← hn]
    obtain ⟨T, hT⟩ : ∃ T, T = Lib.itoa n := ⟨_, rfl⟩
    rw [← hT] at HT ⊢
    clear h hs hx hT hn HRA
    have HN := hide (rname_any [35] w (by decide))
    rw [show namL [35] = false by kernel_rfl] at HN
    have q48 := lst_no (l := [35]) (m := [48]) (by decide)
    have y35 : ((BA [35]).toList == [35]) = true := by rw [BA_toList]; rfl
    go_enter Tryd.func14, Tryd.ntmps14
    go_wp2_with fail
    refine (unhide HN).mono ?_
    rintro e w1 ⟨rfl, hw1⟩
    rw [show w1 = w from hw1]
    clear hw1
    go_wp2_with fail
    refine (unhide HT).mono ?_
    rintro e w1 ⟨rfl, hB⟩
    have HB := hide hB
    clear hB
    go_wp2
    go_ret2
    exact ⟨rfl, unhide HB⟩
  rw [if_neg h35]
  by_cases h63 : p = [63]
  · subst h63
    rw [if_pos rfl]
    have HT : Hid (Calls Tryd.prog 45 #[.int .i64 s.st] w fun e w' => e = .returned (.string (BA (Lib.itoa s.st))) ∧ Below w.heap.size w w') := hide (rtext_any _ w hs.1 hs.2)
    obtain ⟨T, hT⟩ : ∃ T, T = Lib.itoa s.st := ⟨_, rfl⟩
    rw [← hT] at HT ⊢
    clear h hs hx hT hn h35 HRA
    have HN := hide (rname_any [63] w (by decide))
    rw [show namL [63] = false by kernel_rfl] at HN
    have q48 := lst_no (l := [63]) (m := [48]) (by decide)
    have q35 := lst_no (l := [63]) (m := [35]) (by decide)
    have y63 : ((BA [63]).toList == [63]) = true := by rw [BA_toList]; rfl
    go_enter Tryd.func14, Tryd.ntmps14
    go_wp2_with fail
    refine (unhide HN).mono ?_
    rintro e w1 ⟨rfl, hw1⟩
    rw [show w1 = w from hw1]
    clear hw1
    go_wp2_with fail
    refine (unhide HT).mono ?_
    rintro e w1 ⟨rfl, hB⟩
    have HB := hide hB
    clear hB
    go_wp2
    go_ret2
    exact ⟨rfl, unhide HB⟩
  rw [if_neg h63]
  by_cases h64 : p = [64]
  · subst h64
    rw [if_pos (.inl rfl)]
    have HJ : Hid (Calls Tryd.prog 46 #[.string ⟨#[32]⟩, .slice ad n cap] w.drew fun e w' => e = .returned (.string (BA (Lib.join s.args [32]))) ∧ w'.cell? ⟨b, 2, none⟩ = some (.slice ad n cap) ∧ Hid (Below w.heap.size w w')) := hide (by
      refine (joinR_any (.slice ad n cap) s.args w.drew (unhide HA).drew hl hx).mono ?_
      rintro e w' ⟨h1, h2⟩
      have hB : Below w.heap.size w w' := by rw [show w' = w.drew from h2]; exact below_drew w 1
      exact ⟨h1, (hB.cell (p := ⟨b, 2, none⟩) hbl).trans c2, hide hB⟩)
    obtain ⟨J, hJ⟩ : ∃ J, J = Lib.join s.args [32] := ⟨_, rfl⟩
    rw [← hJ] at HJ ⊢
    rw [← hn]
    clear HRA h35 h63 h hs hx hl hJ hn c1 c3 HA
    have HN := hide (rname_any [64] w (by decide))
    rw [show namL [64] = false by kernel_rfl] at HN
    have q48 := lst_no (l := [64]) (m := [48]) (by decide)
    have q35 := lst_no (l := [64]) (m := [35]) (by decide)
    have q63 := lst_no (l := [64]) (m := [63]) (by decide)
    have y64 : ((BA [64]).toList == [64]) = true := by rw [BA_toList]; rfl
    go_enter Tryd.func14, Tryd.ntmps14
    go_wp2_with fail
    refine (unhide HN).mono ?_
    rintro e w1 ⟨rfl, hw1⟩
    rw [show w1 = w from hw1]
    clear hw1
    go_wp2_with fail
    go_region_held3 (fun w' => w'.cell? ⟨b, 2, none⟩ = some (.slice ad n cap)) (go_keep) ((go_at_call 46; refine (unhide HJ).mono ?_; rintro e w2 ⟨rfl, d1, HE⟩))
    go_wp2
    go_ret2
    exact ⟨by simp, unhide HE⟩
  by_cases h42 : p = [42]
  · subst h42
    rw [if_pos (.inr rfl)]
    have HJ : Hid (Calls Tryd.prog 46 #[.string ⟨#[32]⟩, .slice ad n cap] w.drew fun e w' => e = .returned (.string (BA (Lib.join s.args [32]))) ∧ w'.cell? ⟨b, 2, none⟩ = some (.slice ad n cap) ∧ Hid (Below w.heap.size w w')) := hide (by
      refine (joinR_any (.slice ad n cap) s.args w.drew (unhide HA).drew hl hx).mono ?_
      rintro e w' ⟨h1, h2⟩
      have hB : Below w.heap.size w w' := by rw [show w' = w.drew from h2]; exact below_drew w 1
      exact ⟨h1, (hB.cell (p := ⟨b, 2, none⟩) hbl).trans c2, hide hB⟩)
    obtain ⟨J, hJ⟩ : ∃ J, J = Lib.join s.args [32] := ⟨_, rfl⟩
    rw [← hJ] at HJ ⊢
    rw [← hn]
    clear HRA h35 h63 h64 h hs hx hl hJ hn c1 c3 HA
    have HN := hide (rname_any [42] w (by decide))
    rw [show namL [42] = false by kernel_rfl] at HN
    have q48 := lst_no (l := [42]) (m := [48]) (by decide)
    have q35 := lst_no (l := [42]) (m := [35]) (by decide)
    have q63 := lst_no (l := [42]) (m := [63]) (by decide)
    have q64 := lst_no (l := [42]) (m := [64]) (by decide)
    have y42 : ((BA [42]).toList == [42]) = true := by rw [BA_toList]; rfl
    go_enter Tryd.func14, Tryd.ntmps14
    go_wp2_with fail
    refine (unhide HN).mono ?_
    rintro e w1 ⟨rfl, hw1⟩
    rw [show w1 = w from hw1]
    clear hw1
    go_wp2_with fail
    go_region_held3 (fun w' => w'.cell? ⟨b, 2, none⟩ = some (.slice ad n cap)) (go_keep) ((go_at_call 46; refine (unhide HJ).mono ?_; rintro e w2 ⟨rfl, d1, HE⟩))
    go_wp2
    go_ret2
    exact ⟨by simp, unhide HE⟩
  rw [if_neg (fun e => e.elim h64 h42)]
  by_cases hnm : namL p = true
  · rw [if_pos hnm]
    have HN := hide (rname_any p w hp)
    rw [hnm] at HN
    have HG := hide (rget_any w0 w b Y s p h hL)
    obtain ⟨⟨xn, xv, xs, xe, xr⟩, hX⟩ : ∃ x, x = getL s.L p := ⟨_, rfl⟩
    rw [← hX] at HG ⊢
    simp only at HG ⊢
    clear h hs hx hnm hX h35 h63 h64 h42 c1 c2 c3 HRA HA
    go_enter Tryd.func14, Tryd.ntmps14
    go_wp2_with fail
    refine (unhide HN).mono ?_
    rintro e w1 ⟨rfl, hw1⟩
    rw [show w1 = w from hw1]
    clear hw1
    go_wp2_with fail
    refine (unhide HG).mono ?_
    rintro e w1 ⟨rfl, hB⟩
    have HB := hide hB
    clear hB
    go_wp2
    go_ret2
    exact ⟨rfl, unhide HB⟩
  rw [if_neg hnm]
  have HN := hide (rname_any p w hp)
  rw [show namL p = false by simpa using hnm] at HN
  by_cases h48 : p = [48]
  · subst h48
    rw [show nmbS s [48] = (s.zero, true) by unfold nmbS; rw [if_pos rfl]]
    clear h hs hx hnm h35 h63 h64 h42 c2 c3 HRA HA
    have y48 : ((BA [48]).toList == [48]) = true := by rw [BA_toList]; rfl
    go_enter Tryd.func14, Tryd.ntmps14
    go_wp2_with fail
    refine (unhide HN).mono ?_
    rintro e w1 ⟨rfl, hw1⟩
    rw [show w1 = w from hw1]
    clear hw1
    go_wp2
    go_ret2
    exact ⟨rfl, Below.refl _ _⟩
  have HM := hide (fun hh => nmb_miss (s := s) h48 hh)
  have HH : Hid (∀ i : Nat, i < n → Lib.itoa ((i : Int) + 1) = p → nmbS s p = (s.args.getD i [], true)) := hide (fun i hi e => nmb_hit (by omega) (by omega) e)
  have HNN := hide hn
  have hnl : n ≤ 20 := by omega
  have HP48 := hide h48
  obtain ⟨R, hR⟩ : ∃ R, R = nmbS s p := ⟨_, rfl⟩
  rw [← hR] at HM HH ⊢
  have HC2 := hide c2
  have q48 := lst_no (l := p) (m := [48]) h48
  have q35 := lst_no (l := p) (m := [35]) h35
  have q63 := lst_no (l := p) (m := [63]) h63
  have q64 := lst_no (l := p) (m := [64]) h64
  have q42 := lst_no (l := p) (m := [42]) h42
  clear h hs hx hl hnm hn hR h35 h63 h64 h42 h48 c1 c3
  go_enter Tryd.func14, Tryd.ntmps14
  go_wp2_with fail
  refine (unhide HN).mono ?_
  rintro e w1 ⟨rfl, hw1⟩
  rw [show w1 = w from hw1]
  clear hw1
  go_wp2_with fail
  go_loopw [6] (fun iv wr => ∃ k : Nat, iv = .int .i64 k ∧ k ≤ n ∧ Hid (Below w.heap.size w wr ∧ ∀ i : Nat, i < k → Lib.itoa ((i : Int) + 1) ≠ p)) (fun iv _ => n - (intOf iv).toNat)
  case atStart => exact ⟨0, rfl, Nat.zero_le _, hide ⟨Below.refl _ _, fun i hi => absurd hi (by omega)⟩⟩
  case round =>
    obtain ⟨k, rfl, hk, HI⟩ := hrel
    clear c2
    have c2 : wr.cell? ⟨b, 2, none⟩ = some (.slice ad n cap) := ((unhide HI).1.cell (p := ⟨b, 2, none⟩) hbl).trans (unhide HC2)
    by_cases hlt : k < n
    · have hlt1 : (k : Int) < (n : Int) := by omega
      have hk0 : (0 : Int) ≤ (k : Int) := by omega
      have HT : Hid (Calls Tryd.prog 45 #[.int .i64 ((k : Int) + 1)] wr fun e w' => e = .returned (.string (BA (Lib.itoa ((k : Int) + 1)))) ∧ Below wr.heap.size wr w') := hide (rtext_any _ wr (by omega) (by omega))
      obtain ⟨T, hT⟩ : ∃ T, T = Lib.itoa ((k : Int) + 1) := ⟨_, rfl⟩
      rw [← hT] at HT
      have HTT := hide hT
      clear hT
      by_cases hq : T = p
      · have hqq : ((BA T).toList == (BA p).toList) = true := by rw [hq]; simp
        have HR := hide (unhide HH k hlt (by rw [← unhide HTT]; exact hq))
        clear hq
        go_wp2_with fail
        refine (unhide HT).mono ?_
        rintro e w1 ⟨rfl, hB⟩
        have hBB := (unhide HI).1.trans (hB.mono (unhide HI).1.size)
        clear c2
        have c2 : w1.cell? ⟨b, 2, none⟩ = some (.slice ad n cap) := (hBB.cell (p := ⟨b, 2, none⟩) hbl).trans (unhide HC2)
        obtain ⟨x, hx⟩ : ∃ x, s.args[k]? = some x := ⟨_, List.getElem?_eq_getElem (by have := unhide HNN; omega)⟩
        have hga : ∃ g o, ad = some ⟨g, o, none⟩ ∧ w1.cell? ⟨g, o + k, none⟩ = some (.string (BA x)) := by
          obtain ⟨a1, p1, e1, _, h0 | ⟨g, o, h1, h2, h3⟩⟩ := unhide HA
          · rw [h0] at hx; simp at hx
          · injection e1 with e1 _ _
            exact ⟨g, o, e1.trans h1, (hBB.cell (p := ⟨g, o + k, none⟩) h2).trans (h3 k x hx)⟩
        obtain ⟨g, o, rfl, d0⟩ := hga
        have HX := hide hx
        have HBB := hide hBB
        clear hB hx hBB
        go_wp2
        go_ret2
        refine ⟨?_, unhide HBB⟩
        rw [unhide HR]
        simp only [List.getD_eq_getElem?_getD, unhide HX, Option.getD_some]
        rfl
      · have hqq : ((BA T).toList == (BA p).toList) = false := by rw [BA_toList, BA_toList]; simpa using hq
        have HQ := hide hq
        clear hq
        go_wp2_with fail
        refine (unhide HT).mono ?_
        rintro e w1 ⟨rfl, hB⟩
        have HBB := hide ((unhide HI).1.trans (hB.mono (unhide HI).1.size))
        clear hB
        go_wp2
        go_roundw
        case rel => exact ⟨k + 1, by go_num, by omega, hide ⟨unhide HBB, fun i hi => by
          by_cases e : i = k
          · subst e
            rw [← unhide HTT]
            exact unhide HQ
          · exact (unhide HI).2 i (by omega)⟩⟩
        case measure => simp [intOf]; omega
    · have hlt1 : ¬ (k : Int) < (n : Int) := by omega
      have HR := hide (unhide HM (fun i hi => (unhide HI).2 i (by have := unhide HNN; omega)))
      have HBB := hide (unhide HI).1
      go_wp2
      go_ret2
      refine ⟨?_, unhide HBB⟩
      rw [unhide HR]
      rfl

end Go.Proofs.YtbcbnoeplapblaaDoor

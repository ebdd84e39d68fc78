/-
  strings.Builder's WriteString at this program.
  zeros, bytesOf, bytes; Read.
  bytes; Read.
-/
import Derived.Test.YtnpeiibecihleaaGreatDoorM03
import Derived.Test.YtnpeiibecihleaaGreatDoorM05
import Derived.Lib.Builder
import Derived.OwnWalk
import Derived.Test.YtnpeiibecihleaaGreatDoorM04
/- strings.Builder's WriteString at this program. -/
namespace Go.Proofs.YtnpeiibecihleaaGreatDoor
open Go.RowKit

theorem und_bytes : Tryz.prog.underlying 102 = some (.slice 5) := by kernel_rfl
theorem und_str : Tryz.prog.underlying 9 = some .string := by kernel_rfl
theorem info_byte : (Tryz.prog.info? 5).map (fun i => (i.zero, i.size, i.bytes)) = some (some (.int .u8 0), 1, 1) := by kernel_rfl
theorem byteCells_append (a b : List UInt8) : Lib.byteCells (a ++ b) = Lib.byteCells a ++ Lib.byteCells b := by simp [Lib.byteCells]
theorem bldAt_keep {T e : TypeId} {B bb : Nat} {x : Value} {bs : List Value} {w w1 : World} (h : Lib.BuilderAt T e B bb x bs w) (hg : Below w.heap.size w w1) : Lib.BuilderAt T e B bb x bs w1 := by
  obtain ⟨h1, v, h2, h3, h4⟩ := h
  have hg' : GrownS w w1 (fun _ => False) := grownS_of_below hg
  exact ⟨h1, v, (hg.block bb (Array.getElem?_eq_some_iff.1 h2).1).trans h2, own_grownS h3 hg' (fun _ _ e => e), h4⟩
theorem bld_keep {T e : TypeId} {B bb : Nat} {bs : List Value} {w w1 : World} (h : Lib.IsBuilder T e B bb bs w) (hg : Below w.heap.size w w1) : Lib.IsBuilder T e B bb bs w1 := by
  rcases h with h | h
  · exact .inl (bldAt_keep h hg)
  · exact .inr (bldAt_keep h hg)
theorem und_bptr : Tryz.prog.underlying 101 = some (.pointer 104) := by kernel_rfl
theorem und_unsafe : Tryz.prog.underlying 221 = some .unsafePointer := by kernel_rfl
theorem size_bld : (Tryz.prog.info? 104).map (·.size) = some 2 := by kernel_rfl
theorem lies_bld : liesAt Tryz.prog Tryz.prog.depth 104 (2 / Tryz.prog.cellsOf 104) 0 104 1 = true := by kernel_rfl

set_option maxRecDepth 20000 in
set_option maxHeartbeats 1000000 in
theorem check_used (b : Nat) (w : World) (h0 : w.cell? ⟨b, 0, none⟩ = some (.pointer (some ⟨b, 0, none⟩))) :
    Calls Tryz.prog 159 #[.pointer (some ⟨b, 0, none⟩)] w fun e w' => e = .returned (.tuple #[]) ∧ w' = w := by
  obtain ⟨j, hj, _⟩ := Option.map_eq_some_iff.1 size_bld
  have hq := Lib.run_neq_ptr_same w ⟨b, 0, none⟩ und_bptr hj
  go_enter Tryz.func159, Tryz.ntmps159
  go_wp2
  refine bodyPost_end (res0 rfl _ _) rfl ?_
  exact ⟨rfl, rfl⟩

set_option maxRecDepth 20000 in
set_option maxHeartbeats 1000000 in
theorem check_fresh (b : Nat) (w : World) (h0 : w.cell? ⟨b, 0, none⟩ = some (.pointer none)) (hsh : w.shape? b = some (104, 2)) (hfz : w.frozen? ⟨b, 0, none⟩ = false) :
    Calls Tryz.prog 159 #[.pointer (some ⟨b, 0, none⟩)] w fun e w' => e = .returned (.tuple #[]) ∧ w' = w.setCell ⟨b, 0, none⟩ (.pointer (some ⟨b, 0, none⟩)) := by
  obtain ⟨j, hj, hjs⟩ := Option.map_eq_some_iff.1 size_bld
  have ht := Lib.run_to_unsafe w ⟨b, 0, none⟩ und_bptr und_unsafe hj (by rw [hjs]; decide) hsh (Nat.zero_lt_succ 1)
  have hf := Lib.run_from_unsafe w ⟨b, 0, none⟩ und_unsafe und_bptr hj hsh lies_bld
  go_enter Tryz.func159, Tryz.ntmps159
  go_wp2
  rw [run_callFunc_extern Tryz.func180 (by kernel_rfl) (by kernel_rfl) (by kernel_rfl) (e := Extern.AbiNoEscape.same) (by kernel_rfl)]
  rw [Lib.run_noEscape]
  simp only [Result.andThen]
  rw [Oper.upon_value]
  go_wp2
  refine bodyPost_end (res0 rfl _ _) rfl ?_
  exact ⟨rfl, rfl⟩

/-- Behind it the builder holds its own address; its bytes are as they were. -/
theorem check_any (B b : Nat) (bs : List Value) (w : World) (h : Lib.IsBuilder 104 5 B b bs w) :
    Calls Tryz.prog 159 #[.pointer (some ⟨b, 0, none⟩)] w fun e w' => e = .returned (.tuple #[]) ∧ Lib.BuilderAt 104 5 B b (.pointer (some ⟨b, 0, none⟩)) bs w' ∧ Below B w w' := by
  rcases h with h | h
  · refine (check_fresh b w h.cell0 h.shape h.frozen0).mono ?_
    rintro e w' ⟨rfl, rfl⟩
    exact ⟨rfl, h.used _, (Below.refl B w).setCell (p := ⟨b, 0, none⟩) h.1 _⟩
  · refine (check_used b w h.cell0).mono ?_
    rintro e w' ⟨rfl, rfl⟩
    exact ⟨rfl, h, Below.refl B _⟩

set_option maxRecDepth 20000 in
set_option maxHeartbeats 2000000 in
theorem bwrite_any (B b : Nat) (l : List UInt8) (s : ByteArray) (w : World) (h : Lib.IsBuilder 104 5 B b (Lib.byteCells l) w) (hlen : l.length + s.size ≤ 140737488355328) (hBw : B ≤ w.heap.size) :
    Calls Tryz.prog 135 #[.pointer (some ⟨b, 0, none⟩), .string s] w fun e w' => e = .returned (.tuple #[.int .i64 s.size, .nilIface]) ∧ Lib.IsBuilder 104 5 B b (Lib.byteCells (l ++ s.data.toList)) w' ∧ Below B w w' := by
  obtain ⟨i0, hi, hz0, hz1, hz2⟩ := info2 info_byte
  have hcl : (Lib.byteCells l).length = l.length := by simp [Lib.byteCells]
  have HC := hide (check_any B b _ w h)
  clear h
  go_enter Tryz.func135, Tryz.ntmps135
  go_wp2_with fail
  refine (unhide HC).mono ?_
  rintro e w1 ⟨rfl, ⟨hB, v, hbk, hown, hne⟩, hb1⟩
  have c1 : w1.cell? ⟨b, 1, none⟩ = some v := by rw [Lib.cell_of_heap hbk]; rfl
  clear HC
  go_wp2_with (first
    | (at_builtin; refine Lib.wpList_append_own_string _ rfl (.tmp 12) (.tmp 13) 102 9 rfl B 5 i0 und_bytes und_str hi hz0 hz1 hz2 _ _ _ rfl hown s rfl ?c3 ?c4 ?c5 ?_)
    | go_in)
  case c3 => unfold maxLen; omega
  case c4 => omega
  case c5 => have := hb1.size; omega
  intro v' w2 hown' hgrow _
  have hlt : b < w1.heap.size := (Array.getElem?_eq_some_iff.1 hbk).1
  have hb2 : w2.heap[b]? = some (.cells #[.pointer (some ⟨b, 0, none⟩), v] 104 (0, 0)) := by
    rw [hgrow.block b hlt (fun e => hne e.symm)]
    exact hbk
  have d1 : w2.cell? ⟨b, 1, none⟩ = some v := by rw [Lib.cell_of_heap hb2]; rfl
  have f1 : w2.frozen? ⟨b, 1, none⟩ = false := Lib.frozen_of_heap hb2 1
  obtain ⟨ao, n', cap, rfl⟩ : ∃ ao n' cap, v' = .slice ao n' cap := by
    rcases hown'.2 with ⟨hv, _⟩ | ⟨g, cap, cur, hv, _⟩
    · exact ⟨_, _, _, hv⟩
    · exact ⟨_, _, _, hv⟩
  have hcs : Lib.byteCells l ++ Lib.strCells s = Lib.byteCells (l ++ s.data.toList) := by rw [byteCells_append]; rfl
  have HO := hide (show w2.ownsRow B 5 1 (.slice ao n' cap) (Lib.byteCells (l ++ s.data.toList)).length (Lib.byteCells (l ++ s.data.toList)) by
    rw [← hcs, List.length_append, Lib.strCells_length, hcl]; exact hown')
  have HG := hide hgrow
  have HW := hide hown
  have HH := hide hb2
  clear hcs hown' hgrow hown hb2 hcl hbk hne
  go_wp2
  go_ret2
  refine ⟨rfl, .inr ?_, ?_⟩
  · exact Lib.BuilderAt.put (T := 104) (e := 5) hB (unhide HH) (unhide HO) (by decide)
  · exact (hb1.grown (unhide HG) (by have := hb1.size; omega) (fun k hk => ((unhide HW).lt k hk).1)).setCell (p := ⟨b, 1, none⟩) hB _

end Go.Proofs.YtnpeiibecihleaaGreatDoor

/- zeros, bytesOf, bytes; Read. -/
namespace Go.Proofs.YtnpeiibecihleaaGreatDoor
open Go.RowKit Go.Maps

def zerosL (n : Nat) : List UInt8 := List.replicate n 0
theorem repeat_zero : ∀ n, Lib.repeatL [0] n = zerosL n
  | 0 => rfl
  | n + 1 => by
    show [0] ++ Lib.repeatL [0] n = List.replicate (n + 1) 0
    rw [repeat_zero n, List.replicate_succ]
    rfl
set_option maxRecDepth 20000 in
theorem zeros_any (n : Nat) (w : World) (hn : n ≤ 100000) : Calls Tryz.prog 149 #[.int .i64 (n : Int)] w fun e w' => e = .returned (.string (BA (zerosL n))) ∧ Below w.heap.size w w' := by
  have HR := hide (Tryz.strings_Repeat ⟨#[0]⟩ n w (by omega) (by show 1 * n ≤ _; omega))
  rw [show (⟨#[0]⟩ : ByteArray).data.toList = [0] from rfl, repeat_zero] at HR
  go_enter Tryz.func149, Tryz.ntmps149
  go_wp2_with fail
  refine (unhide HR).mono ?_
  rintro e w1 ⟨rfl, h1⟩
  have H1 := hide h1
  clear h1
  go_wp2
  go_ret
  exact ⟨rfl, unhide H1⟩
/-- n bytes of a node from a on. -/
def bytsOf (x : Nd) (a n : Nat) : List UInt8 := (List.range n).map (fun j => x.byt (a + j))
theorem bytsOf_len (x : Nd) (a n : Nat) : (bytsOf x a n).length = n := by simp [bytsOf]
theorem bytsOf_app (x : Nd) (a n m : Nat) : bytsOf x a (n + m) = bytsOf x a n ++ bytsOf x (a + n) m := by
  unfold bytsOf
  rw [List.range_add, List.map_append, List.map_map]
  congr 1
  apply List.map_congr_left
  intro j _
  show x.byt (a + (n + j)) = x.byt (a + n + j)
  rw [Nat.add_assoc]
theorem zeroI (w : World) : (zeroValue 3).run Tryz.prog w = .ok (.int .i64 0) w := by kernel_rfl
set_option maxRecDepth 20000 in
set_option maxHeartbeats 1000000 in
theorem bytesOf_any {w : World} {p : Nat} {L : Lay} {T : TB} (H : TL w p L T) {i : Nat} {x : Nd} (hi : T[i]? = some (some x)) (part fr n : Nat) (hp : part ≤ 100000) (hf : fr + n ≤ 64) :
    Calls Tryz.prog 144 #[.pointer (some ⟨p, 0, none⟩), .pointer (some ⟨L.q i, 0, none⟩), .int .i64 (part : Int), .int .i64 (fr : Int), .int .i64 (n : Int)] w fun e w' => e = .returned (.string (BA (bytsOf x (64 * part + fr) n))) ∧ Below w.heap.size w w' := by
  obtain ⟨D, hD, hR⟩ := (H.node i x hi).own
  have cm : w.cell? ⟨L.q i, 4, none⟩ = some (.map (some (L.m i))) := (H.node i x hi).blk.cell 4 rfl
  have cs : w.cell? ⟨p, 1, none⟩ = some (.pointer (some ⟨L.s, 0, none⟩)) := H.tab.cell 1 rfl
  have hbyt := H.byte i x hi
  have hkey := keyI (a := (part : Int)) (by simp [Lit.wf, IntKind.min, IntKind.max, IntKind.signed, IntKind.bits]; omega)
  obtain ⟨m, hm⟩ : ∃ m, m = L.m i := ⟨_, rfl⟩
  obtain ⟨q, hq⟩ : ∃ q, q = L.q i := ⟨_, rfl⟩
  obtain ⟨s, hs⟩ : ∃ s, s = L.s := ⟨_, rfl⟩
  rw [← hm] at hD cm
  rw [← hq] at cm ⊢
  rw [← hs] at cs
  have hh := hR.has (part : Int)
  rw [show ((part : Int)).toNat = part by omega] at hh
  cases hc : L.pf i part with
  | none =>
    have hh2 : Maps.has D (.int .i64 (part : Int)) = false := by rw [hh]; unfold isS; rw [hc]; simp
    have HZ := hide (zeros_any n w (by omega))
    have e : zerosL n = bytsOf x (64 * part + fr) n := by
      unfold zerosL bytsOf
      apply List.ext_getElem
      · simp
      · intro j h1 h2
        simp at h1
        simp
        rw [hbyt]
        unfold byteOf
        rw [show (64 * part + fr + j) / 64 = part by omega, hc]
    rw [e] at HZ
    obtain ⟨hb, hhb⟩ : ∃ hb, hb = Maps.has D (.int .i64 (part : Int)) := ⟨_, rfl⟩
    rw [hh2] at hhb
    have HD := hide hD
    have HK := hide hkey
    have HH := hide hh2
    clear hbyt H hi hR hh hm hq hs hc hD hkey hh2 hhb e
    go_enter Tryz.func144, Tryz.ntmps144
    go_wp2_with (first
      | (at_lookup; refine wpList_lookup_own_ok_int _ rfl _ _ 156 rfl 3 3 .i64 lawI Tryz.underlying156 Tryz.underlying3 (zeroI _) m _ _ rfl (unhide HD) _ _ rfl (unhide HK) ?_; intro c hat hwc; rw [unhide HH]; have HC := hide hat; clear hat)
      | fail)
    refine (unhide HZ).mono ?_
    rintro e w1 ⟨rfl, h1⟩
    have H1 := hide h1
    clear h1
    go_wp2
    go_ret
    exact ⟨rfl, unhide H1⟩
  | some b =>
    have hh2 : Maps.has D (.int .i64 (part : Int)) = true := by rw [hh]; unfold isS; rw [hc]; simp
    have hat0 := hR.at' part b hc (.lit (.int .i64 0))
    obtain ⟨y, hy, hyn⟩ := H.part i x hi part b hc
    have hyl := H.store.wf.len hy hyn
    have hbl := (List.getElem?_eq_some_iff.1 hy).1
    have hmx := H.store.wf.max
    have HRD := hide (read_any w L.s L.gs L.hs L.l ((b : Int) + 1) (fr : Int) (n : Int) H.store (by omega) (by omega))
    have e : readT L.l ((b : Int) + 1) fr n = bytsOf x (64 * part + fr) n := by
      unfold readT
      rw [tkn_of hy, show (!y.isEmpty) = true by cases y with | nil => exact absurd rfl hyn | cons _ _ => rfl, show inB (fr : Int) (n : Int) = true by simp [inB]; omega, show ((b : Int) + 1 - 1).toNat = b by omega]
      simp only [Bool.and_self, if_true]
      rw [List.getD_eq_getElem?_getD, hy]
      show ((y.drop fr).take n) = _
      unfold bytsOf
      apply List.ext_getElem
      · simp; omega
      · intro j h1 h2
        simp at h1 h2 ⊢
        rw [hbyt]
        unfold byteOf
        rw [show (64 * part + fr + j) / 64 = part by omega, hc, show (64 * part + fr + j) % 64 = fr + j by omega]
        show _ = bAt L.l b (fr + j)
        rw [bAt_of hy, List.getD_eq_getElem?_getD, List.getElem?_eq_getElem (by omega)]
        rfl
    rw [show ((fr : Int)) = ((fr : Nat) : Int) from rfl] at HRD
    rw [e] at HRD
    rw [← hs] at HRD
    obtain ⟨E, hE⟩ : ∃ E, E = readE L.l ((b : Int) + 1) fr n := ⟨_, rfl⟩
    rw [← hE] at HRD
    have HD := hide hD
    have HK := hide hkey
    have HH := hide hh2
    have HA := hide hat0
    clear hbyt H hi hR hh hm hq hs hc hD hkey hh2 hat0 e hy hyn hyl hE
    go_enter Tryz.func144, Tryz.ntmps144
    go_wp2_with (first
      | (at_lookup; refine wpList_lookup_own_ok_int _ rfl _ _ 156 rfl 3 3 .i64 lawI Tryz.underlying156 Tryz.underlying3 (zeroI _) m _ _ rfl (unhide HD) _ _ rfl (unhide HK) ?_; intro c hat hwc; rw [unhide HH]; obtain rfl : c = (b : Int) + 1 := (by rw [unhide HA] at hat; injection hat with hat; injection hat with _ hat; exact hat.symm); clear hat hwc)
      | fail)
    refine (unhide HRD).mono ?_
    rintro e w1 ⟨rfl, hw1⟩
    rw [show w1 = w from hw1]
    clear hw1
    go_wp2
    go_ret
    exact ⟨rfl, Below.refl _ _⟩

end Go.Proofs.YtnpeiibecihleaaGreatDoor

/- bytes; Read. -/
namespace Go.Proofs.YtnpeiibecihleaaGreatDoor
open Go.RowKit Go.Maps

theorem TL.below {w w' : World} {p : Nat} {L : Lay} {T : TB} (H : TL w p L T) (hb : Below w.heap.size w w') : TL w' p L T :=
  H.grownS (S := fun _ => False) (grownS_of_below hb) (H.lt.mono (fun _ _ e => e))

set_option maxRecDepth 20000 in
set_option maxHeartbeats 1000000 in
theorem bytes_none (p q : Nat) (a n : Int) (w : World) (hn : n ≤ 0) : Calls Tryz.prog 114 #[.pointer (some ⟨p, 0, none⟩), .pointer (some ⟨q, 0, none⟩), .int .i64 a, .int .i64 n] w fun e w' => e = .returned (.string (BA [])) ∧ Below w.heap.size w w' := by
  have hn2 : ¬ 0 < n := by omega
  have HS : Hid (Calls Tryz.prog 57 #[.pointer (some ⟨w.heap.size, 0, none⟩)] (w.alloc (.cells #[.pointer none, .slice none 0 0] 104)) fun e w' => e = .returned (.string (BA [])) ∧ Below w.heap.size w w') := hide (by
    have hb : Below w.heap.size w (w.alloc (.cells #[.pointer none, .slice none 0 0] 104)) := (Below.refl _ _).alloc (Nat.le_refl _) _
    refine (Tryz.Builder_String_any w.heap.size w.heap.size [] _ (Lib.fresh_isBuilder _ _ w) hb.size).mono ?_
    rintro e w' ⟨h1, h2⟩
    exact ⟨h1, hb.trans h2⟩)
  go_enter Tryz.func114, Tryz.ntmps114
  go_wp2_with fail
  refine wp_loop_rounds 1 ?_
  rw [rounds_succ]
  go_wp2_with fail
  refine (unhide HS).mono ?_
  rintro e w1 ⟨rfl, h1⟩
  have H1 := hide h1
  clear h1
  go_wp2
  go_ret
  exact ⟨rfl, unhide H1⟩
set_option maxRecDepth 20000 in
set_option maxHeartbeats 400000 in
theorem bytes_any {w : World} {p : Nat} {L : Lay} {T : TB} (H : TL w p L T) {i : Nat} {x : Nd} (hi : T[i]? = some (some x)) (a n : Nat) (hn : a + n ≤ 4096) :
    Calls Tryz.prog 114 #[.pointer (some ⟨p, 0, none⟩), .pointer (some ⟨L.q i, 0, none⟩), .int .i64 (a : Int), .int .i64 (n : Int)] w fun e w' => e = .returned (.string (BA (bytsOf x a n))) ∧ Below w.heap.size w w' := by
  have HS0 : Hid (Lib.IsBuilder 104 5 w.heap.size w.heap.size (Lib.byteCells (bytsOf x a 0)) (w.alloc (.cells #[.pointer none, .slice none 0 0] 104)) ∧ Below w.heap.size w (w.alloc (.cells #[.pointer none, .slice none 0 0] 104))) := hide ⟨Lib.fresh_isBuilder _ _ w, (Below.refl _ _).alloc (Nat.le_refl _) _⟩
  have HBO : Hid (∀ (wr : World) (part fr k : Nat), Below w.heap.size w wr → part ≤ 100000 → fr + k ≤ 64 → Calls Tryz.prog 144 #[.pointer (some ⟨p, 0, none⟩), .pointer (some ⟨L.q i, 0, none⟩), .int .i64 (part : Int), .int .i64 (fr : Int), .int .i64 (k : Int)] wr fun e w' => e = .returned (.string (BA (bytsOf x (64 * part + fr) k))) ∧ Below wr.heap.size wr w') := hide (fun wr part fr k hb h1 h2 => bytesOf_any (H.below hb) hi part fr k h1 h2)
  obtain ⟨q, hq⟩ : ∃ q, q = L.q i := ⟨_, rfl⟩
  rw [← hq] at HBO ⊢
  clear hq H hi
  go_enter Tryz.func114, Tryz.ntmps114
  go_wp2_with fail
  go_loopw [2, 3] (fun u v wr => ∃ d r : Nat, u = .int .i64 ((a + d : Nat) : Int) ∧ v = .int .i64 (r : Int) ∧ d + r = n ∧ Hid (Lib.IsBuilder 104 5 w.heap.size w.heap.size (Lib.byteCells (bytsOf x a d)) wr ∧ Below w.heap.size w wr)) (fun _ v _ => (intOf v).toNat)
  case atStart => exact ⟨0, n, rfl, rfl, by omega, HS0⟩
  case round =>
    clear HS0
    obtain ⟨d, r, rfl, rfl, hdr, HS⟩ := hrel
    by_cases hr : 0 < r
    · have HPL := hide (place_any (a + d) wr (by omega))
      have hr1 : (0 : Int) < (r : Int) := by omega
      obtain ⟨k, hk⟩ : ∃ k, k = min r (64 - (a + d) % 64) := ⟨_, rfl⟩
      have hk1 : k ≤ r := by omega
      have hr4 : r ≤ 4096 := by omega
      have hk0 : 0 < k := by omega
      have hk2 : k + (a + d) % 64 ≤ 64 := by omega
      have HB := hide (unhide HBO wr ((a + d) / 64) ((a + d) % 64) k (unhide HS).2 (by omega) (by omega))
      rw [show 64 * ((a + d) / 64) + (a + d) % 64 = a + d by omega] at HB
      have HW : Hid (∀ w1, Below wr.heap.size wr w1 → Calls Tryz.prog 135 #[.pointer (some ⟨w.heap.size, 0, none⟩), .string (BA (bytsOf x (a + d) k))] w1 fun e w' => e = .returned (.tuple #[.int .i64 ((BA (bytsOf x (a + d) k)).size : Int), .nilIface]) ∧ Hid (Lib.IsBuilder 104 5 w.heap.size w.heap.size (Lib.byteCells (bytsOf x a (d + k))) w' ∧ Below w.heap.size w w')) := hide (fun w1 hb => by
        have hsz := (unhide HS).2.size
        refine (bwrite_any w.heap.size w.heap.size (bytsOf x a d) (BA (bytsOf x (a + d) k)) w1 (bld_keep (unhide HS).1 hb) (by simp [bytsOf_len]; omega) (by have := hb.size; omega)).mono ?_
        rintro e w' ⟨h1, h2, h3⟩
        refine ⟨h1, hide ⟨?_, (unhide HS).2.trans ((hb.mono hsz).trans h3)⟩⟩
        rw [bytsOf_app]
        exact h2)
      obtain ⟨pt, hpt⟩ : ∃ pt, pt = (a + d) / 64 := ⟨_, rfl⟩
      obtain ⟨fr, hfr⟩ : ∃ fr, fr = (a + d) % 64 := ⟨_, rfl⟩
      rw [← hpt, ← hfr] at HPL HB
      rw [← hfr] at hk hk2
      have hmin : min (r : Int) (64 - (fr : Int)) = (k : Int) := by omega
      have hfr64 : fr < 64 := by omega
      have had : a + d ≤ 4096 := by omega
      obtain ⟨ad, had2⟩ : ∃ ad, ad = a + d := ⟨_, rfl⟩
      rw [← had2] at HPL HB HW had
      have HAD := hide had2
      have HDR := hide hdr
      have HK := hide hk
      clear hpt hfr had2 HS HBO hdr hk hr hn
      rw [← unhide HAD]
      go_wp2_with fail
      refine (unhide HPL).mono ?_
      rintro e w1 ⟨rfl, hw1⟩
      rw [show w1 = wr from hw1]
      clear hw1
      go_wp2_with fail
      refine (unhide HB).mono ?_
      rintro e w1 ⟨rfl, h1⟩
      have H1 := hide h1
      clear h1
      go_wp2_with fail
      refine (unhide HW w1 (unhide H1)).mono ?_
      rintro e w2 ⟨rfl, H2⟩
      go_wp2
      go_roundw
      case rel => exact ⟨d + k, r - k, by have := unhide HAD; go_num, by go_num, by have := unhide HDR; omega, H2⟩
      case measure => simp [intOf]; omega
    · have hr1 : ¬ (0 : Int) < (r : Int) := by omega
      have HSS : Hid (Calls Tryz.prog 57 #[.pointer (some ⟨w.heap.size, 0, none⟩)] wr fun e w' => e = .returned (.string (BA (bytsOf x a n))) ∧ Below w.heap.size w w') := hide (by
        obtain rfl : d = n := by omega
        refine (Tryz.Builder_String_any w.heap.size w.heap.size _ _ (unhide HS).1 (unhide HS).2.size).mono ?_
        rintro e w' ⟨h1, h2⟩
        exact ⟨h1, (unhide HS).2.trans h2⟩)
      clear HS HBO hdr hr hn
      go_wp2_with fail
      refine (unhide HSS).mono ?_
      rintro e w1 ⟨rfl, h1⟩
      have H1 := hide h1
      clear h1
      go_wp2
      go_ret
      exact ⟨rfl, unhide H1⟩

set_option maxRecDepth 20000 in
theorem tread_nil (i a n : Int) (w : World) : Calls Tryz.prog 66 #[.pointer none, .int .i64 i, .int .i64 a, .int .i64 n] w fun e w' => e = .returned (.tuple #[.string ⟨#[]⟩, .int .i64 2]) ∧ w' = w := by
  go_enter Tryz.func66, Tryz.ntmps66
  go_wp2_with fail
  refine (tfind_nil i w).mono ?_
  rintro e w1 ⟨rfl, hw1⟩
  rw [show w1 = w from hw1]
  clear hw1
  go_wp2
  go_ret2
  exact ⟨rfl, rfl⟩

set_option maxRecDepth 20000 in
set_option maxHeartbeats 1000000 in
theorem tread_any {w : World} {p nb : Nat} {X : Nat → Prop} {T : TB} (H : TAt w p X T nb) (hgd : ∀ (k : Nat) (x : Nd), T[k]? = some (some x) → x.size ≤ 4096) (i a n : Int) (hb : -9223372036854775808 ≤ i ∧ i ≤ 9223372036854775807) (ha : a ≤ 9223372036854775807) : Calls Tryz.prog 66 #[.pointer (some ⟨p, 0, none⟩), .int .i64 i, .int .i64 a, .int .i64 n] w fun e w' => e = .returned (.tuple #[.string (BA (rdT T i a n)), .int .i64 (rdE T i a n)]) ∧ Below w.heap.size w w' := by
  obtain ⟨L, HL, hin, hnb⟩ := H
  unfold rdT rdE
  cases hx : ndAt T i with
  | none =>
    have HF := hide (tfind_none HL hx hb)
    clear HL hx hin
    go_enter Tryz.func66, Tryz.ntmps66
    go_wp2_with fail
    refine (unhide HF).mono ?_
    rintro e w1 ⟨rfl, hw1⟩
    rw [show w1 = w from hw1]
    clear hw1
    go_wp2
    go_ret2
    exact ⟨rfl, Below.refl _ _⟩
  | some x =>
    obtain ⟨k, rfl, hk, _⟩ := ndAt_some hx
    have HF := hide (tfind_some HL hk)
    dsimp only
    by_cases h1 : a < 0
    · rw [if_pos (.inl h1), if_pos (.inl h1)]
      obtain ⟨q, hq⟩ : ∃ q, q = L.q k := ⟨_, rfl⟩
      rw [← hq] at HF
      clear HL hx hin hq hk hgd
      go_enter Tryz.func66, Tryz.ntmps66
      go_wp2_with fail
      refine (unhide HF).mono ?_
      rintro e w1 ⟨rfl, hw1⟩
      rw [show w1 = w from hw1]
      clear hw1
      go_wp2
      go_ret2
      exact ⟨rfl, Below.refl _ _⟩
    · by_cases h2 : n < 0
      · rw [if_pos (.inr h2), if_pos (.inr h2)]
        obtain ⟨q, hq⟩ : ∃ q, q = L.q k := ⟨_, rfl⟩
        rw [← hq] at HF
        clear HL hx hin hq hk hgd
        go_enter Tryz.func66, Tryz.ntmps66
        go_wp2_with fail
        refine (unhide HF).mono ?_
        rintro e w1 ⟨rfl, hw1⟩
        rw [show w1 = w from hw1]
        clear hw1
        go_wp2
        go_ret2
        exact ⟨rfl, Below.refl _ _⟩
      · rw [if_neg (by omega), if_neg (by omega)]
        obtain ⟨at', rfl⟩ : ∃ at' : Nat, a = at' := ⟨a.toNat, by omega⟩
        obtain ⟨n', rfl⟩ : ∃ n' : Nat, n = n' := ⟨n.toNat, by omega⟩
        have hsz := hgd k x hk
        have c := (HL.node k x hk).blk.cell 3 rfl
        change _ = some (Value.int .i64 (x.size : Int)) at c
        obtain ⟨r, hr⟩ : ∃ r : Int, min (n' : Int) ((x.size : Int) - (at' : Int)) = r := ⟨_, rfl⟩
        have HB : Hid (Calls Tryz.prog 114 #[.pointer (some ⟨p, 0, none⟩), .pointer (some ⟨L.q k, 0, none⟩), .int .i64 (at' : Int), .int .i64 r] w fun e w' => e = .returned (.string (BA (((datOf x).drop at').take n'))) ∧ Below w.heap.size w w') := hide (by
          by_cases h0 : r ≤ 0
          · have e : ((datOf x).drop at').take n' = [] := by
              apply List.eq_nil_of_length_eq_zero
              rw [List.length_take, List.length_drop, datOf_len]
              omega
            rw [e]
            exact bytes_none p (L.q k) at' r w h0
          · obtain ⟨m, rfl⟩ : ∃ m : Nat, r = m := ⟨r.toNat, by omega⟩
            have e : ((datOf x).drop at').take n' = bytsOf x at' m := by
              apply List.ext_getElem
              · rw [List.length_take, List.length_drop, datOf_len, bytsOf_len]
                omega
              · intro j g1 g2
                rw [bytsOf_len] at g2
                simp [datOf, bytsOf]
            rw [e]
            exact bytes_any HL hk at' m (by omega))
        simp only [Int.toNat_natCast]
        obtain ⟨q, hq⟩ : ∃ q, q = L.q k := ⟨_, rfl⟩
        rw [← hq] at HF HB c
        obtain ⟨sz, hsz2⟩ : ∃ sz, sz = x.size := ⟨_, rfl⟩
        rw [← hsz2] at c hr hsz
        clear HL hx hin hq hk hgd hsz2
        go_enter Tryz.func66, Tryz.ntmps66
        go_wp2_with fail
        refine (unhide HF).mono ?_
        rintro e w1 ⟨rfl, hw1⟩
        rw [show w1 = w from hw1]
        clear hw1
        go_wp2_with fail
        refine (unhide HB).mono ?_
        rintro e w1 ⟨rfl, h3⟩
        have H3 := hide h3
        clear h3
        go_wp2
        go_ret2
        exact ⟨rfl, unhide H3⟩

end Go.Proofs.YtnpeiibecihleaaGreatDoor

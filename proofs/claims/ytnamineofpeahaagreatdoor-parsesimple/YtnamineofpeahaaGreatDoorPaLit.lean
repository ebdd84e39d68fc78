/-
  Literal, the program's.
-/
import Derived.Test.YtnamineofpeahaaGreatDoorM04
import Derived.Test.YtnamineofpeahaaGreatDoorM18
namespace Go.Proofs.YtnamineofpeahaaGreatDoor
open Go.RowKit

/-- A word's bytes, if it has nothing but Lits. -/
def litR (l : List Prt) : List UInt8 × Bool := if l.all (fun p => p.kind == 1) then (l.flatMap Prt.text, true) else ([], false)
theorem litR_yes {l : List Prt} (h : ∀ p, p ∈ l → p.kind = 1) : litR l = (l.flatMap Prt.text, true) := by
 unfold litR
 rw [if_pos (List.all_eq_true.2 (fun p hp => by rw [h p hp]; rfl))]
theorem litR_no {l : List Prt} {p : Prt} (hp : p ∈ l) (h : p.kind ≠ 1) : litR l = ([], false) := by
 unfold litR
 rw [if_neg]
 intro e
 have := List.all_eq_true.1 e p hp
 exact h (by simpa using this)
theorem txt_take (l : List Prt) (k : Nat) : ((l.take k).flatMap Prt.text).length ≤ (l.flatMap Prt.text).length := by
 have : l.flatMap Prt.text = (l.take k).flatMap Prt.text ++ (l.drop k).flatMap Prt.text := by rw [← List.flatMap_append, List.take_append_drop]
 rw [this, List.length_append]
 omega
theorem lit_len {a p : List UInt8} {n : Nat} (h : (a ++ p).length ≤ n) (h2 : n ≤ 1000) : a.length + (BA p).size ≤ 140737488355328 := by
 rw [List.length_append] at h
 have : (BA p).size = p.length := by simp
 omega
theorem txt_one (l : List Prt) (j : Nat) (p : Prt) (h : l[j]? = some p) : (l.take (j + 1)).flatMap Prt.text = (l.take j).flatMap Prt.text ++ p.text := by
 obtain ⟨h1, h2⟩ := List.getElem?_eq_some_iff.1 h
 rw [List.take_succ_eq_append_getElem h1, h2]
 simp
theorem all_one {l : List Prt} {j : Nat} {p : Prt} (h : l[j]? = some p) (ha : ∀ q, q ∈ l.take j → q.kind = 1) (hp : p.kind = 1) : ∀ q, q ∈ l.take (j + 1) → q.kind = 1 := by
 obtain ⟨h1, h2⟩ := List.getElem?_eq_some_iff.1 h
 rw [List.take_succ_eq_append_getElem h1, h2]
 intro q hq
 simp at hq
 rcases hq with hq | hq
 ·exact ha q hq
 ·rw [hq]; exact hp
theorem bldAt_keep {T e : TypeId} {B bb : Nat} {x : Value} {bs : List Value} {w w1 : World} (h : Lib.BuilderAt T e B bb x bs w) (hg : Below w.heap.size w w1) : Lib.BuilderAt T e B bb x bs w1 := by
 obtain ⟨h1, v, h2, h3, h4⟩ := h
 have hg' : GrownS w w1 (fun _ => False) := grownS_of_below hg
 exact ⟨h1, v, (hg.block bb (Array.getElem?_eq_some_iff.1 h2).1).trans h2, own_grownS h3 hg' (fun _ _ e => e), h4⟩
theorem bld_keep {T e : TypeId} {B bb : Nat} {bs : List Value} {w w1 : World} (h : Lib.IsBuilder T e B bb bs w) (hg : Below w.heap.size w w1) : Lib.IsBuilder T e B bb bs w1 := by
 rcases h with h | h
 ·exact .inl (bldAt_keep h hg)
 ·exact .inr (bldAt_keep h hg)

set_option maxRecDepth 20000 in
set_option maxHeartbeats 8000000 in
theorem literal_any (ps : List Prt) (v : Value) (A : Nat → Prop) (w : World) (hv : WAt w A v ps) (hA : ∀ j, A j → j < w.heap.size) (hz : (ps.flatMap Prt.text).length ≤ 1000) :
 Calls Tryz.prog 11 #[v] w fun e w' => e = .returned (.tuple #[.string (BA (litR ps).1), .bool (litR ps).2]) ∧ Below w.heap.size w w' := by
 obtain ⟨va, vc, rfl, hlen⟩ := hv.len
 have HS0 : Hid (Lib.IsBuilder 73 5 w.heap.size w.heap.size (Lib.byteCells []) (w.alloc (.cells #[.pointer none, .slice none 0 0] 73)) ∧ Below w.heap.size w (w.alloc (.cells #[.pointer none, .slice none 0 0] 73))) := hide ⟨Lib.fresh_isBuilder _ _ w, (Below.refl _ _).alloc (Nat.le_refl _) _⟩
 have HV := hide hv
 have HA := hide hA
 have HZ := hide hz
 clear hv hA hz
 go_enter Tryz.func11, Tryz.ntmps11
 go_wp2_with fail
 go_loopw [9] (fun i wr => ∃ j : Nat, j ≤ ps.length ∧ i = .int .i64 j ∧ Hid (Lib.IsBuilder 73 5 w.heap.size w.heap.size (Lib.byteCells ((ps.take j).flatMap Prt.text)) wr ∧ Below w.heap.size w wr) ∧ Hid (∀ q, q ∈ ps.take j → q.kind = 1)) (fun i _ => ps.length - (intOf i).toNat)
 case atStart => exact ⟨0, Nat.zero_le _, rfl, HS0, hide (by simp)⟩
 case round =>
  clear HS0
  obtain ⟨j, hj, rfl, HS, HK⟩ := hrel
  by_cases hlt : j < ps.length
  ·obtain ⟨p, hp⟩ := (show ∃ p, ps[j]? = some p from ⟨ps[j], List.getElem?_eq_getElem hlt⟩)
   have hwat : WAt wr A (.slice va ps.length vc) ps := (uh HV).below (uh HS).2 (uh HA)
   obtain ⟨g, o, sv, had, hg, c0, c1, c2, c3, c4, c5, hsub⟩ := hwat.part hp
   have hgr : g < wr.heap.size := by have := uh HA g hg; have := (uh HS).2.size; omega
   have hlt1 : (j : Int) < (ps.length : Int) := by omega
   obtain ⟨sa, sc, rfl, _⟩ := hsub.len
   have HP := hide hp
   subst had
   by_cases hk1 : p.kind = 1
   ·have HWR : Hid (∀ ob, Calls Tryz.prog 30 #[.pointer (some ⟨w.heap.size, 0, none⟩), .string (BA p.text)] (wr.alloc ob) fun e w' => e = .returned (.tuple #[.int .i64 (BA p.text).size, .nilIface]) ∧ Lib.IsBuilder 73 5 w.heap.size w.heap.size (Lib.byteCells ((ps.take (j + 1)).flatMap Prt.text)) w' ∧ Below w.heap.size w w') := hide (fun ob => by
     have hb : Below wr.heap.size wr (wr.alloc ob) := (Below.refl _ _).alloc (Nat.le_refl _) _
     have h1 := txt_take ps (j + 1)
     have h3 := uh HZ
     rw [txt_one ps j p (uh HP)] at h1
     have := write_any w.heap.size w.heap.size ((ps.take j).flatMap Prt.text) (BA p.text) (wr.alloc ob) (bld_keep (uh HS).1 hb) (lit_len h1 h3) (by have := (uh HS).2.size; simp; omega)
     refine this.mono ?_
     rintro e w' ⟨rfl, h4, h5⟩
     refine ⟨rfl, ?_, (uh HS).2.trans ((hb.mono (uh HS).2.size).trans h5)⟩
     rw [txt_one ps j p (uh HP)]
     rwa [show (BA p.text).data.toList = p.text by simp] at h4)
    have HK2 := hide (all_one (uh HP) (uh HK) hk1)
    rw [hk1] at c0
    clear hp hwat hsub hg HS hk1 HK
    go_wp2_with fail
    refine (uh HWR _).mono ?_
    rintro e w3 ⟨rfl, a3⟩
    have HD := hide a3
    clear a3
    go_wp2
    go_roundw
    case rel => exact ⟨j + 1, by omega, by go_num, HD, HK2⟩
    case measure => simp [intOf]; omega
   ·have HR := hide (litR_no (List.mem_of_getElem? hp) hk1)
    have HB : Hid (∀ ob, Below w.heap.size w (wr.alloc ob)) := hide (fun ob => (uh HS).2.alloc (uh HS).2.size _)
    obtain ⟨kd, hkd⟩ : ∃ kd, p.kind = kd := ⟨_, rfl⟩
    rw [hkd] at c0 hk1
    have hk2 : (kd != 1) = true := by simpa using hk1
    clear hp hwat hsub hg HS hk1 hkd HK
    go_wp2
    go_ret2
    rw [uh HR]
    exact ⟨rfl, uh HB _⟩
  ·have hje : ¬ (j : Int) < (ps.length : Int) := by omega
   have HR : Hid (litR ps = (ps.flatMap Prt.text, true)) := hide (litR_yes (by have := uh HK; rwa [List.take_of_length_le (by omega)] at this))
   have HBS : Hid (Calls Tryz.prog 31 #[.pointer (some ⟨w.heap.size, 0, none⟩)] wr fun e w' => e = .returned (.string (BA (ps.flatMap Prt.text))) ∧ Below w.heap.size w w') := hide (by
    have h1 := (uh HS).1
    rw [List.take_of_length_le (by omega)] at h1
    refine (Tryz.Builder_String_any w.heap.size w.heap.size _ wr h1 (uh HS).2.size).mono ?_
    rintro e w' ⟨rfl, h5⟩
    exact ⟨rfl, (uh HS).2.trans h5⟩)
   clear HS HK
   go_wp2_with fail
   refine (uh HBS).mono ?_
   rintro e w3 ⟨rfl, b3⟩
   have HB := hide b3
   clear b3
   go_wp2
   go_ret2
   rw [uh HR]
   exact ⟨rfl, uh HB⟩


end Go.Proofs.YtnamineofpeahaaGreatDoor

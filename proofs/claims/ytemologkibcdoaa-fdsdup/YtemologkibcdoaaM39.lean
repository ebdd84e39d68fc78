/-
  Numbers of open files: New, Set, Open (how many), List.
  Numbers of open files: End, Fork.
-/
import Derived.Test.YtemologkibcdoaaM38

/- Numbers of open files: New, Set, Open (how many), List. -/
namespace Go.Proofs.Ytemologkibcdoaa
open Go.RowKit Go.Maps

set_option maxRecDepth 20000 in
set_option maxHeartbeats 1000000 in
theorem slist_any {w : World} {f q nb n x : Nat} {B : Bas} {Z : Nat → Prop} {A : AS} {sb : List Nat} {H : Hp} {L : Fay} (F : FH w f q Z A nb n B x sb H L) {k b : Nat} {l : List (Option Nat)} (hb : sb[k]? = some b) (hl : A.st[k]? = some l) : Calls Try.prog 12 #[.pointer (some ⟨b, 0, none⟩)] w fun e w' => ∃ v, e = .returned v ∧ Hid (NuRow w.heap.size w' v (numsL l true) ∧ Below w.heap.size w w') := by
  obtain ⟨c0, c1, f1, hblk, hl16⟩ := F.setCell hb hl
  have HN := hide (sisnil_any hblk)
  have HM := hide (numbers_any hblk hl16 true)
  clear F c1 f1 hblk hl16
  go_enter Try.func12, Try.ntmps12
  go_wp2_with fail
  refine (unhide HN).mono ?_
  rintro e w1 ⟨rfl, hw⟩
  subst hw
  go_wp2_with fail
  refine (unhide HM).mono ?_
  rintro e w2 ⟨v, rfl, h1⟩
  clear HM HN
  go_wp2_with fail
  go_ret
  exact ⟨v, rfl, h1⟩
set_option maxRecDepth 20000 in
theorem slist_nil (w : World) : Calls Try.prog 12 #[.pointer none] w fun e w' => e = .returned (.slice none 0 0) ∧ w' = w := by
  have HN := hide (sisnil_nil w)
  go_enter Try.func12, Try.ntmps12
  go_wp2_with fail
  refine (unhide HN).mono ?_
  rintro e w1 ⟨rfl, hw⟩
  subst hw
  go_wp2_with fail
  go_ret
  exact ⟨rfl, rfl⟩
set_option maxRecDepth 20000 in
theorem xopen_any {w : World} {f q nb n x : Nat} {B : Bas} {Z : Nat → Prop} {A : AS} {sb : List Nat} {H : Hp} {L : Fay} (F : FH w f q Z A nb n B x sb H L) : Calls Try.prog 10 #[.pointer (some ⟨x, 0, none⟩)] w fun e w' => e = .returned (.int .i64 (openA A : Int)) ∧ w' = w := by
  obtain ⟨_, c1, _⟩ := F.filCell
  clear F
  go_enter Try.func10, Try.ntmps10
  go_wp2
  go_ret
  exact ⟨rfl, rfl⟩
theorem Lies.newSt {H : Hp} {f x c : Nat} {L : Fay} {sb : List Nat} {A : AS} (h : Lies H f x L sb A c) {b : Nat} (hb : H b = none) : Lies (upd H b ⟨.set A.st.length, 66, setC L x (List.replicate 16 none)⟩) f x L (sb ++ [b]) (nwSt A) c := by
  have h2 := h.ext (upd_new hb ⟨.set A.st.length, 66, setC L x (List.replicate 16 none)⟩)
  refine ⟨h2.fil, h2.th, h2.ob, h2.pp, h2.sk, fun k b2 l h3 h4 => ?_, by show (sb ++ [b]).length = (A.st ++ [_]).length; simp [h.len]⟩
  rcases get_app h4 with ⟨rfl, rfl⟩ | ⟨hk, h4⟩
  · rw [← h.len, List.getElem?_append_right (Nat.le_refl _), Nat.sub_self] at h3
    injection h3 with h3
    subst h3
    exact ⟨upd_self _ _ _, by simp⟩
  · rw [List.getElem?_append_left (by rw [h.len]; exact hk)] at h3
    exact h2.st k b2 l h3 h4
theorem FH.newSt {w : World} {f q nb n x : Nat} {B : Bas} {Z : Nat → Prop} {A : AS} {sb : List Nat} {H : Hp} {L : Fay} (F : FH w f q Z A nb n B x sb H L) : FH (w.alloc (.cells (setC L x (List.replicate 16 none)) 66)) f q Z (nwSt A) nb n B x (sb ++ [w.heap.size]) (upd H w.heap.size ⟨.set A.st.length, 66, setC L x (List.replicate 16 none)⟩) L :=
  ⟨F.mx.more (.set A.st.length) 66 (setC L x (List.replicate 16 none)), F.li.newSt (F.mx.noth (Nat.le_refl _))⟩
set_option maxRecDepth 20000 in
set_option maxHeartbeats 1000000 in
theorem xset_any {w : World} {f q nb n x : Nat} {B : Bas} {Z : Nat → Prop} {A : AS} {sb : List Nat} {H : Hp} {L : Fay} (F : FH w f q Z A nb n B x sb H L) : Calls Try.prog 15 #[.pointer (some ⟨x, 0, none⟩)] w fun e w' => e = .returned (.pointer (some ⟨w.heap.size, 0, none⟩)) ∧ Hid (∃ H', FH w' f q Z (nwSt A) nb n B x (sb ++ [w.heap.size]) H' L) := by
  have HF := hide F.newSt
  have hc : setC L x (List.replicate 16 none) = #[.pointer (some ⟨x, 0, none⟩), .pointer none, .pointer none, .pointer none, .pointer none, .pointer none, .pointer none, .pointer none, .pointer none, .pointer none, .pointer none, .pointer none, .pointer none, .pointer none, .pointer none, .pointer none, .pointer none] := rfl
  rw [hc] at HF
  clear F hc
  go_enter Try.func15, Try.ntmps15
  go_wp2
  go_ret
  exact ⟨rfl, hide ⟨_, unhide HF⟩⟩
/-- Nothing is open. -/
def A0 (s : NS) : AS := ⟨s, [], [], [], []⟩
theorem ok_0 (s : NS) (n : Nat) : AOk (A0 s) n := ⟨fun k l h => by simp [A0] at h, fun i t h => by simp [A0] at h, Nat.zero_le _, fun i t h => by simp [A0] at h, Nat.zero_le _, fun k s h => by simp [A0] at h, fun i t h => by simp [A0] at h⟩
theorem MX.start {w : World} {f q nb n : Nat} {B : Bas} {Y : Nat → Prop} {s : NS} (F : FX w f q Y s nb n B) : MX w f q Y s nb n B (fun _ => none) := by
  have : Yof Y (fun _ => none) = Y := funext fun k => propext ⟨fun h => h.1, fun h => ⟨h, rfl⟩⟩
  exact ⟨(by rw [this]; exact F), (fun b o h => by cases h), (fun b o h => by cases h), F.nd.yb⟩
set_option maxRecDepth 20000 in
set_option maxHeartbeats 1000000 in
theorem fdnew_any {w : World} {f q nb n : Nat} {B : Bas} {Y : Nat → Prop} {s : NS} (F : FX w f q Y s nb n B) : Calls Try.prog 14 #[.pointer (some ⟨f, 0, none⟩)] w fun e w' => e = .returned (.tuple #[.pointer (some ⟨w.heap.size, 0, none⟩), .int .i64 0]) ∧ Hid (∃ H L, FH w' f q Y (A0 s) nb n B w.heap.size [] H L) := by
  have HF : Hid (∃ H L, FH (w.alloc (.cells #[.pointer (some ⟨f, 0, none⟩), .int .i64 0, .slice none 0 0] 62)) f q Y (A0 s) nb n B w.heap.size [] H L) := hide (by
    have M := (MX.start F).more .files 62 (filC f 0 (.slice none 0 0))
    refine ⟨_, ⟨fun _ => 0, fun _ => 0, fun _ => 0, fun _ => 0⟩, M, ⟨_, upd_self _ _ _, .inl ⟨rfl, rfl⟩⟩, fun i t h => ?_, fun i t h => ?_, fun p y h => ?_, fun k t h => ?_, fun k b l h => ?_, rfl⟩
    all_goals simp [A0] at h)
  clear F
  go_enter Try.func14, Try.ntmps14
  go_wp2
  go_ret2
  exact ⟨rfl, HF⟩
set_option maxRecDepth 20000 in
theorem fdnew_nil (w : World) : Calls Try.prog 14 #[.pointer none] w fun e w' => e = .returned (.tuple #[.pointer none, .int .i64 2]) ∧ w' = w := by
  go_enter Try.func14, Try.ntmps14
  go_wp2
  go_ret2
  exact ⟨rfl, rfl⟩

end Go.Proofs.Ytemologkibcdoaa

/- Numbers of open files: End, Fork. -/
namespace Go.Proofs.Ytemologkibcdoaa
open Go.RowKit Go.Maps

/-- A set of the same numbers; all numbers closed. -/
def frkTo (A : AS) (k : Nat) (l : List (Option Nat)) (ns : List Nat) : AS := ns.foldl (fun A (j : Nat) => match (l[j]?).join with | none => A | some i => takeA A k (j : Int) i) A
def frkA (A : AS) (k : Nat) : AS := frkTo (nwSt A) A.st.length (row A k) (numsL (row A k) true)
def enTo (A : AS) (k : Nat) (ns : List Nat) : AS := ns.foldl (fun A (j : Nat) => dropA A k (j : Int)) A
def enA (A : AS) (k : Nat) : AS := enTo A k (numsL (row A k) true)
theorem nums_mem {l : List (Option Nat)} {j : Nat} (h : j ∈ numsL l true) : j < 16 ∧ ∃ i, l[j]? = some (some i) := by
  have h1 := List.mem_filter.1 h
  refine ⟨List.mem_range.1 h1.1, ?_⟩
  have h2 : ((l[j]?).join).isSome = true := by simpa using h1.2
  cases h3 : l[j]? with
  | none => rw [h3] at h2; cases h2
  | some o =>
    rw [h3] at h2
    cases o with
    | none => cases h2
    | some i => exact ⟨i, rfl⟩
theorem nums_nodup (l : List (Option Nat)) (o : Bool) : (numsL l o).Nodup := List.Nodup.sublist List.filter_sublist List.nodup_range
theorem nums_le (l : List (Option Nat)) (o : Bool) : (numsL l o).length ≤ 16 := nums_len l o 16
/-- Of distinct numbers the next is not among those that were. -/
theorem next_no {ns : List Nat} (h : ns.Nodup) {j x : Nat} (hj : ns[j]? = some x) : x ∉ ns.take j := fun hm => by
  obtain ⟨i, hi⟩ := List.mem_iff_getElem?.1 hm
  have hil : i < j := by
    have := (List.getElem?_eq_some_iff.1 hi).1
    rw [List.length_take] at this
    omega
  rw [List.getElem?_take, if_pos hil] at hi
  obtain ⟨h1, e1⟩ := List.getElem?_eq_some_iff.1 hi
  obtain ⟨h2, e2⟩ := List.getElem?_eq_some_iff.1 hj
  exact List.pairwise_iff_getElem.1 h i j h1 h2 hil (e1.trans e2.symm)
theorem take_app1 {α : Type} {l : List α} {j : Nat} {x : α} (h : l[j]? = some x) : l.take (j + 1) = l.take j ++ [x] := by
  rw [List.take_add_one, h]
  rfl
/-- How far the numbers of a row are closed. -/
structure EndS (A0 A : AS) (k : Nat) (l : List (Option Nat)) (ns : List Nat) : Prop where
  is : A = enTo A0 k ns
  row : ∃ l', A.st[k]? = some l' ∧ (∀ j, j ∉ ns → l'[j]? = l[j]?) ∧ ∀ j, j ∈ ns → l'[j]? = some none
theorem EndS.step {A0 A : AS} {k n : Nat} {l : List (Option Nat)} {ns : List Nat} (h : EndS A0 A k l ns) (K : AOk A n) {j i : Nat} (hj : j < 16) (hl : l[j]? = some (some i)) (hn : j ∉ ns) : EndS A0 (dropA A k (j : Int)) k l (ns ++ [j]) := by
  obtain ⟨h1, l', h2, h3, h4⟩ := h
  have hlj : l'[j]? = some (some i) := (h3 j hn).trans hl
  obtain ⟨t, ht, _⟩ := K.at h2 hlj
  refine ⟨?_, l'.set j none, by rw [drop_st h2 hj hlj ht]; exact setl_at h2, fun m hm => ?_, fun m hm => ?_⟩
  · rw [h1]
    unfold enTo
    rw [List.foldl_append]
    rfl
  · rw [List.mem_append, not_or] at hm
    rw [List.getElem?_set_ne (fun e => hm.2 (by rw [e]; exact List.mem_singleton.2 rfl))]
    exact h3 m hm.1
  · by_cases e : m = j
    · subst e
      exact setl_at hlj
    · rw [List.getElem?_set_ne (fun e2 => e e2.symm)]
      rcases List.mem_append.1 hm with hm | hm
      · exact h4 m hm
      · exact absurd (List.mem_singleton.1 hm) e
end Go.Proofs.Ytemologkibcdoaa

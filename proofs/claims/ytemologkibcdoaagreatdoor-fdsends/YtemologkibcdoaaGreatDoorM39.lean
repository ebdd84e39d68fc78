/-
  Numbers of open files: New, Set, Open (how many), List.
  Numbers of open files: End, Fork.
-/
import Derived.Test.YtemologkibcdoaaGreatDoorM38

/- Numbers of open files: New, Set, Open (how many), List. -/
namespace Go.Proofs.YtemologkibcdoaaGreatDoor
open Go.RowKit Go.Maps

set_option maxRecDepth 20000 in
set_option maxHeartbeats 1000000 in
theorem slist_any {w : World} {f q nb n x : Nat} {B : Bas} {Z : Nat → Prop} {A : AS} {sb : List Nat} {H : Hp} {L : Fay} (F : FH w f q Z A nb n B x sb H L) {k b : Nat} {l : List (Option Nat)} (hb : sb[k]? = some b) (hl : A.st[k]? = some l) : Calls Tryz.prog 13 #[.pointer (some ⟨b, 0, none⟩)] w fun e w' => ∃ v, e = .returned v ∧ Hid (NuRow w.heap.size w' v (numsL l true) ∧ Below w.heap.size w w') := by
  obtain ⟨c0, c1, f1, hblk, hl16⟩ := F.setCell hb hl
  have HN := hide (sisnil_any hblk)
  have HM := hide (numbers_any hblk hl16 true)
  clear F c1 f1 hblk hl16
  go_enter Tryz.func13, Tryz.ntmps13
  go_wp2_with fail
  refine (unhide HN).mono ?_
  rintro e w1 ⟨rfl, hw⟩
  subst hw
  go_wp2_with fail
  refine (unhide HM).mono ?_
  rintro e w2 ⟨v, rfl, h1⟩
  clear HM HN
  go_wp2_with fail
  go_ret
  exact ⟨v, rfl, h1⟩
set_option maxRecDepth 20000 in
theorem slist_nil (w : World) : Calls Tryz.prog 13 #[.pointer none] w fun e w' => e = .returned (.slice none 0 0) ∧ w' = w := by
  have HN := hide (sisnil_nil w)
  go_enter Tryz.func13, Tryz.ntmps13
  go_wp2_with fail
  refine (unhide HN).mono ?_
  rintro e w1 ⟨rfl, hw⟩
  subst hw
  go_wp2_with fail
  go_ret
  exact ⟨rfl, rfl⟩
set_option maxRecDepth 20000 in
theorem xopen_any {w : World} {f q nb n x : Nat} {B : Bas} {Z : Nat → Prop} {A : AS} {sb : List Nat} {H : Hp} {L : Fay} (F : FH w f q Z A nb n B x sb H L) : Calls Tryz.prog 11 #[.pointer (some ⟨x, 0, none⟩)] w fun e w' => e = .returned (.int .i64 (openA A : Int)) ∧ w' = w := by
  obtain ⟨_, c1, _⟩ := F.filCell
  clear F
  go_enter Tryz.func11, Tryz.ntmps11
  go_wp2
  go_ret
  exact ⟨rfl, rfl⟩
theorem Lies.newSt {H : Hp} {f x c : Nat} {L : Fay} {sb : List Nat} {A : AS} (h : Lies H f x L sb A c) {b : Nat} (hb : H b = none) : Lies (upd H b ⟨.set A.st.length, 76, setC L x (List.replicate 16 none)⟩) f x L (sb ++ [b]) (nwSt A) c := by
  have h2 := h.ext (upd_new hb ⟨.set A.st.length, 76, setC L x (List.replicate 16 none)⟩)
  refine ⟨h2.fil, h2.th, h2.ob, h2.pp, h2.sk, fun k b2 l h3 h4 => ?_, by show (sb ++ [b]).length = (A.st ++ [_]).length; simp [h.len]⟩
  rcases get_app h4 with ⟨rfl, rfl⟩ | ⟨hk, h4⟩
  · rw [← h.len, List.getElem?_append_right (Nat.le_refl _), Nat.sub_self] at h3
    injection h3 with h3
    subst h3
    exact ⟨upd_self _ _ _, by simp⟩
  · rw [List.getElem?_append_left (by rw [h.len]; exact hk)] at h3
    exact h2.st k b2 l h3 h4
theorem FH.newSt {w : World} {f q nb n x : Nat} {B : Bas} {Z : Nat → Prop} {A : AS} {sb : List Nat} {H : Hp} {L : Fay} (F : FH w f q Z A nb n B x sb H L) : FH (w.alloc (.cells (setC L x (List.replicate 16 none)) 76)) f q Z (nwSt A) nb n B x (sb ++ [w.heap.size]) (upd H w.heap.size ⟨.set A.st.length, 76, setC L x (List.replicate 16 none)⟩) L :=
  ⟨F.mx.more (.set A.st.length) 76 (setC L x (List.replicate 16 none)), F.li.newSt (F.mx.noth (Nat.le_refl _))⟩
set_option maxRecDepth 20000 in
set_option maxHeartbeats 1000000 in
theorem xset_any {w : World} {f q nb n x : Nat} {B : Bas} {Z : Nat → Prop} {A : AS} {sb : List Nat} {H : Hp} {L : Fay} (F : FH w f q Z A nb n B x sb H L) : Calls Tryz.prog 25 #[.pointer (some ⟨x, 0, none⟩)] w fun e w' => e = .returned (.pointer (some ⟨w.heap.size, 0, none⟩)) ∧ Hid (∃ H', FH w' f q Z (nwSt A) nb n B x (sb ++ [w.heap.size]) H' L) := by
  have HF := hide F.newSt
  have hc : setC L x (List.replicate 16 none) = #[.pointer (some ⟨x, 0, none⟩), .pointer none, .pointer none, .pointer none, .pointer none, .pointer none, .pointer none, .pointer none, .pointer none, .pointer none, .pointer none, .pointer none, .pointer none, .pointer none, .pointer none, .pointer none, .pointer none] := rfl
  rw [hc] at HF
  clear F hc
  go_enter Tryz.func25, Tryz.ntmps25
  go_wp2
  go_ret
  exact ⟨rfl, hide ⟨_, unhide HF⟩⟩
/-- Nothing is open. -/
def A0 (s : NS) : AS := ⟨s, [], [], [], []⟩
theorem ok_0 (s : NS) (n : Nat) : AOk (A0 s) n := ⟨fun k l h => by simp [A0] at h, fun i t h => by simp [A0] at h, Nat.zero_le _, fun i t h => by simp [A0] at h, Nat.zero_le _, fun k s h => by simp [A0] at h, fun i t h => by simp [A0] at h⟩
theorem MX.start {w : World} {f q nb n : Nat} {B : Bas} {Y : Nat → Prop} {s : NS} (F : FX w f q Y s nb n B) : MX w f q Y s nb n B (fun _ => none) := by
  have : Yof Y (fun _ => none) = Y := funext fun k => propext ⟨fun h => h.1, fun h => ⟨h, rfl⟩⟩
  exact ⟨(by rw [this]; exact F), (fun b o h => by cases h), (fun b o h => by cases h), F.nd.yb⟩
set_option maxRecDepth 20000 in
set_option maxHeartbeats 1000000 in
theorem fdnew_any {w : World} {f q nb n : Nat} {B : Bas} {Y : Nat → Prop} {s : NS} (F : FX w f q Y s nb n B) : Calls Tryz.prog 22 #[.pointer (some ⟨f, 0, none⟩)] w fun e w' => e = .returned (.tuple #[.pointer (some ⟨w.heap.size, 0, none⟩), .int .i64 0]) ∧ Hid (∃ H L, FH w' f q Y (A0 s) nb n B w.heap.size [] H L) := by
  have HF : Hid (∃ H L, FH (w.alloc (.cells #[.pointer (some ⟨f, 0, none⟩), .int .i64 0, .slice none 0 0] 81)) f q Y (A0 s) nb n B w.heap.size [] H L) := hide (by
    have M := (MX.start F).more .files 81 (filC f 0 (.slice none 0 0))
    refine ⟨_, ⟨fun _ => 0, fun _ => 0, fun _ => 0, fun _ => 0⟩, M, ⟨_, upd_self _ _ _, .inl ⟨rfl, rfl⟩⟩, fun i t h => ?_, fun i t h => ?_, fun p y h => ?_, fun k t h => ?_, fun k b l h => ?_, rfl⟩
    all_goals simp [A0] at h)
  clear F
  go_enter Tryz.func22, Tryz.ntmps22
  go_wp2
  go_ret2
  exact ⟨rfl, HF⟩
set_option maxRecDepth 20000 in
theorem fdnew_nil (w : World) : Calls Tryz.prog 22 #[.pointer none] w fun e w' => e = .returned (.tuple #[.pointer none, .int .i64 2]) ∧ w' = w := by
  go_enter Tryz.func22, Tryz.ntmps22
  go_wp2
  go_ret2
  exact ⟨rfl, rfl⟩

end Go.Proofs.YtemologkibcdoaaGreatDoor

/- Numbers of open files: End, Fork. -/
namespace Go.Proofs.YtemologkibcdoaaGreatDoor
open Go.RowKit Go.Maps

/-- A set of the same numbers; all numbers closed. -/
def frkTo (A : AS) (k : Nat) (l : List (Option Nat)) (ns : List Nat) : AS := ns.foldl (fun A (j : Nat) => match (l[j]?).join with | none => A | some i => takeA A k (j : Int) i) A
def frkA (A : AS) (k : Nat) : AS := frkTo (nwSt A) A.st.length (row A k) (numsL (row A k) true)
def enTo (A : AS) (k : Nat) (ns : List Nat) : AS := ns.foldl (fun A (j : Nat) => dropA A k (j : Int)) A
def enA (A : AS) (k : Nat) : AS := enTo A k (numsL (row A k) true)
theorem nums_mem {l : List (Option Nat)} {j : Nat} (h : j ∈ numsL l true) : j < 16 ∧ ∃ i, l[j]? = some (some i) := by
  have h1 := List.mem_filter.1 h
  refine ⟨List.mem_range.1 h1.1, ?_⟩
  have h2 : ((l[j]?).join).isSome = true := by simpa using h1.2
  cases h3 : l[j]? with
  | none => rw [h3] at h2; cases h2
  | some o =>
    rw [h3] at h2
    cases o with
    | none => cases h2
    | some i => exact ⟨i, rfl⟩
theorem nums_nodup (l : List (Option Nat)) (o : Bool) : (numsL l o).Nodup := List.Nodup.sublist List.filter_sublist List.nodup_range
theorem nums_le (l : List (Option Nat)) (o : Bool) : (numsL l o).length ≤ 16 := nums_len l o 16
/-- Of distinct numbers the next is not among those that were. -/
theorem next_no {ns : List Nat} (h : ns.Nodup) {j x : Nat} (hj : ns[j]? = some x) : x ∉ ns.take j := fun hm => by
  obtain ⟨i, hi⟩ := List.mem_iff_getElem?.1 hm
  have hil : i < j := by
    have := (List.getElem?_eq_some_iff.1 hi).1
    rw [List.length_take] at this
    omega
  rw [List.getElem?_take, if_pos hil] at hi
  obtain ⟨h1, e1⟩ := List.getElem?_eq_some_iff.1 hi
  obtain ⟨h2, e2⟩ := List.getElem?_eq_some_iff.1 hj
  exact List.pairwise_iff_getElem.1 h i j h1 h2 hil (e1.trans e2.symm)
theorem take_app1 {α : Type} {l : List α} {j : Nat} {x : α} (h : l[j]? = some x) : l.take (j + 1) = l.take j ++ [x] := by
  rw [List.take_add_one, h]
  rfl
/-- How far the numbers of a row are closed. -/
structure EndS (A0 A : AS) (k : Nat) (l : List (Option Nat)) (ns : List Nat) : Prop where
  is : A = enTo A0 k ns
  row : ∃ l', A.st[k]? = some l' ∧ (∀ j, j ∉ ns → l'[j]? = l[j]?) ∧ ∀ j, j ∈ ns → l'[j]? = some none
theorem EndS.step {A0 A : AS} {k n : Nat} {l : List (Option Nat)} {ns : List Nat} (h : EndS A0 A k l ns) (K : AOk A n) {j i : Nat} (hj : j < 16) (hl : l[j]? = some (some i)) (hn : j ∉ ns) : EndS A0 (dropA A k (j : Int)) k l (ns ++ [j]) := by
  obtain ⟨h1, l', h2, h3, h4⟩ := h
  have hlj : l'[j]? = some (some i) := (h3 j hn).trans hl
  obtain ⟨t, ht, _⟩ := K.at h2 hlj
  refine ⟨?_, l'.set j none, by rw [drop_st h2 hj hlj ht]; exact setl_at h2, fun m hm => ?_, fun m hm => ?_⟩
  · rw [h1]
    unfold enTo
    rw [List.foldl_append]
    rfl
  · rw [List.mem_append, not_or] at hm
    rw [List.getElem?_set_ne (fun e => hm.2 (by rw [e]; exact List.mem_singleton.2 rfl))]
    exact h3 m hm.1
  · by_cases e : m = j
    · subst e
      exact setl_at hlj
    · rw [List.getElem?_set_ne (fun e2 => e e2.symm)]
      rcases List.mem_append.1 hm with hm | hm
      · exact h4 m hm
      · exact absurd (List.mem_singleton.1 hm) e
set_option maxRecDepth 20000 in
set_option maxHeartbeats 8000000 in
theorem send_any {w : World} {f q nb n x : Nat} {B : Bas} {Z : Nat → Prop} {A : AS} {sb : List Nat} {H : Hp} {L : Fay} (F : FH w f q Z A nb n B x sb H L) {k b : Nat} {l : List (Option Nat)} (hb : sb[k]? = some b) (hl : A.st[k]? = some l) (K : AOk A n) (hn : n ≤ 8000) : Calls Tryz.prog 12 #[.pointer (some ⟨b, 0, none⟩)] w fun e w' => e = .returned (.tuple #[]) ∧ Hid ((∃ H', FH w' f q Z (enA A k) nb (n + 16) B x sb H' L) ∧ AOk (enA A k) (n + 16) ∧ EndS A (enA A k) k l (numsL l true)) := by
  have HL := hide (slist_any F hb hl)
  have HF := hide F
  have HK := hide K
  have HBL := hide hb
  have hes : EndS A A k l [] := ⟨rfl, l, hl, fun _ _ => rfl, fun j h => by simp at h⟩
  have HE0 := hide hes
  have hend : enA A k = enTo A k (numsL l true) := by unfold enA; rw [row_at hl]
  rw [hend]
  obtain ⟨ns, hns⟩ : ∃ ns, ns = numsL l true := ⟨_, rfl⟩
  have hmem : ∀ j, j ∈ ns → j < 16 ∧ ∃ i, l[j]? = some (some i) := fun j hj => nums_mem (hns ▸ hj)
  have hnd : ns.Nodup := by rw [hns]; exact nums_nodup _ _
  have hln : ns.length ≤ 16 := by rw [hns]; exact nums_le _ _
  rw [← hns] at HL ⊢
  have HMEM := hide hmem
  have HND := hide hnd
  clear F K hb hl hes hend hns hmem hnd
  go_enter Tryz.func12, Tryz.ntmps12
  go_wp2_with fail
  refine (unhide HL).mono ?_
  rintro e w1 ⟨v, rfl, h1⟩
  obtain ⟨hrow, hbel⟩ := unhide h1
  obtain ⟨ad, cap, rfl, hcap, hmx, hcell⟩ := hrow
  obtain ⟨N, hN⟩ : ∃ N, N = ns.length := ⟨_, rfl⟩
  rw [← hN] at hln hcap ⊢
  have HN := hide hN
  have F1 := (unhide HF).renew hbel
  have HF1 : Hid (∃ n', FH w1 f q (Zup w w1 Z) A nb n' ⟨B.w, w1, Zup w w1 Z⟩ x sb H L ∧ AOk A n' ∧ n' = n) := hide ⟨n, F1.rebased, unhide HK, rfl⟩
  have HBACK : Hid (∀ w2 A2 n2 H2, FH w2 f q (Zup w w1 Z) A2 nb n2 ⟨B.w, w1, Zup w w1 Z⟩ x sb H2 L → FH w2 f q Z A2 nb n2 B x sb H2 L) := hide (fun w2 A2 n2 H2 G => (unhide HF).home hbel (F1.back G).1)
  have HCE : Hid (∀ w2 A2 n2 H2, FH w2 f q (Zup w w1 Z) A2 nb n2 ⟨B.w, w1, Zup w w1 Z⟩ x sb H2 L → ∀ (i x : Nat), ns[i]? = some x → ∃ g, ad = some ⟨g, 0, none⟩ ∧ w2.cell? ⟨g, i, none⟩ = some (.int .i64 (x : Int))) := hide (fun w2 A2 n2 H2 G i x hx => by
    obtain ⟨g, e1, e2, e3, e4⟩ := hcell i x hx
    have hg : GrownS w1 w2 (Zup w w1 Z) := G.mx.env.kept
    have hz : ¬ Zup w w1 Z g := by
      rintro (h | h)
      · have := h.2
        omega
      · omega
    refine ⟨g, e1, ?_⟩
    have := hg.block g e3 hz
    simp only [World.cell?] at e2 ⊢
    rw [this]
    exact e2)
  have HST : Hid (∀ (w2 : World) (A2 : AS) (j m : Nat), (∃ H2 n2, FH w2 f q (Zup w w1 Z) A2 nb n2 ⟨B.w, w1, Zup w w1 Z⟩ x sb H2 L ∧ AOk A2 n2 ∧ n2 = n + j ∧ EndS A A2 k l (ns.take j)) → ns[j]? = some m → j < N → Calls Tryz.prog 35 #[.pointer (some ⟨b, 0, none⟩), .int .i64 (m : Int)] w2 fun e w' => e = .returned (.tuple #[]) ∧ Hid (∃ A3 H2 n2, FH w' f q (Zup w w1 Z) A3 nb n2 ⟨B.w, w1, Zup w w1 Z⟩ x sb H2 L ∧ AOk A3 n2 ∧ n2 = n + (j + 1) ∧ EndS A A3 k l (ns.take (j + 1)))) := hide (fun w2 A2 j m h hm hj => by
    obtain ⟨H2, n2, G, K2, rfl, hE⟩ := h
    obtain ⟨m1, i, m2⟩ := unhide HMEM m (List.mem_of_getElem? hm)
    have hno := next_no (unhide HND) hm
    obtain ⟨l', e1, e2, e3⟩ := hE.row
    have hlj : l'[m]? = some (some i) := (e2 m hno).trans m2
    obtain ⟨t, ht, t1, t2, tw⟩ := K2.at e1 hlj
    refine (fdrop_any G (unhide HBL) e1 m1 hlj ht tw t1 (by omega) (by have := K2.open; omega) (by omega)).mono (fun e w' h => ⟨h.1, hide ?_⟩)
    obtain ⟨H3, G3⟩ := unhide h.2
    rw [take_app1 hm]
    exact ⟨_, H3, _, G3, ok_drop K2 e1 m1 hlj, by omega, hE.step K2 m1 m2 hno⟩)
  have hfin : Hid (∀ w2 A2, (∃ H2 n2, FH w2 f q (Zup w w1 Z) A2 nb n2 ⟨B.w, w1, Zup w w1 Z⟩ x sb H2 L ∧ AOk A2 n2 ∧ n2 = n + N ∧ EndS A A2 k l (ns.take N)) → (∃ H', FH w2 f q Z (enTo A k ns) nb (n + 16) B x sb H' L) ∧ AOk (enTo A k ns) (n + 16) ∧ EndS A (enTo A k ns) k l ns) := hide (fun w2 A2 h => by
    obtain ⟨H2, n2, G, K2, rfl, hE⟩ := h
    rw [List.take_of_length_le (by rw [unhide HN]; exact Nat.le_refl _)] at hE
    have e := hE.is
    subst e
    exact ⟨⟨H2, (unhide HBACK _ _ _ _ G).mono (by omega)⟩, K2.mono (by omega), hE⟩)
  have hst : Hid (∃ A2 H2 n2, FH w1 f q (Zup w w1 Z) A2 nb n2 ⟨B.w, w1, Zup w w1 Z⟩ x sb H2 L ∧ AOk A2 n2 ∧ n2 = n + 0 ∧ EndS A A2 k l (ns.take 0)) := hide (by
    obtain ⟨n', g1, g2, g3⟩ := unhide HF1
    exact ⟨A, H, n', g1, g2, g3, unhide HE0⟩)
  have hx : Hid (∀ j, j < N → ∃ m, ns[j]? = some m) := hide (fun j hj => ⟨_, List.getElem?_eq_getElem (by rw [← unhide HN]; exact hj)⟩)
  clear HL h1 hbel hcell hN F1 HF1 HBACK HMEM HND HE0 HF HK HBL HN
  go_wp2_with fail
  go_loopw [7] (fun i wr => ∃ (j : Nat), i = .int .i64 (j : Int) ∧ j ≤ N ∧ Hid (∃ A2 H2 n2, FH wr f q (Zup w w1 Z) A2 nb n2 ⟨B.w, w1, Zup w w1 Z⟩ x sb H2 L ∧ AOk A2 n2 ∧ n2 = n + j ∧ EndS A A2 k l (ns.take j))) (fun i _ => N + 1 - (intOf i).toNat)
  case atStart => exact ⟨0, rfl, Nat.zero_le _, hst⟩
  case round =>
    clear hst
    obtain ⟨j, rfl, hj, HS⟩ := hrel
    by_cases hlt : j < N
    · have h1 : (j : Int) < (N : Int) := by omega
      have h0 : (0 : Int) ≤ (j : Int) := by omega
      obtain ⟨m, hm⟩ := unhide hx j hlt
      obtain ⟨A2, hA2⟩ := unhide HS
      obtain ⟨g, rfl, q0⟩ := unhide HCE wr A2 _ _ hA2.choose_spec.choose_spec.1 j m hm
      have HT := hide (unhide HST wr A2 j m hA2 hm hlt)
      clear HS hA2 hm HCE HST hx
      go_wp2_with fail
      refine (unhide HT).mono ?_
      rintro e w3 ⟨rfl, h3⟩
      clear HT q0
      go_wp2_with fail
      go_roundw
      case rel => exact ⟨j + 1, by go_num, by omega, h3⟩
      case measure => simp [intOf]; omega
    · have h1 : ¬ (j : Int) < (N : Int) := by omega
      have HA := hide (by
        obtain ⟨A2, hA2⟩ := unhide HS
        have : j = N := by omega
        subst this
        exact unhide hfin wr A2 hA2)
      clear HS HCE HST hx hfin
      go_wp2_with fail
      refine bodyPost_end (res0 rfl _ _) rfl ?_
      exact ⟨rfl, HA⟩

end Go.Proofs.YtemologkibcdoaaGreatDoor

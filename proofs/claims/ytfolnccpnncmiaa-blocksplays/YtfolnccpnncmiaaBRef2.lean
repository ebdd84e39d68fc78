/-
  The document's store: Free, New, zeros, Take, Write, Copy.
-/
import Derived.Test.YtfolnccpnncmiaaBRef
import Derived.Test.YtfolnccpnncmiaaBTxt
import Derived.Test.YtfolnccpnncmiaaBCopy
import Derived.Deep.RegionHeld3
namespace Go.Proofs.Ytfolnccpnncmiaa
open Go.RowKit

theorem set_far {w : World} {q r i j : Nat} {v u : Value} (h : q ≠ r) (hc : w.cell? ⟨q, j, none⟩ = some u) : (w.setCell ⟨r, i, none⟩ v).cell? ⟨q, j, none⟩ = some u := (grown_setCell w ⟨r, i, none⟩ v).cell hc (fun e => h (by simpa using e))
set_option maxRecDepth 20000 in
theorem rzeros_any (w : World) : Calls Try.prog 24 #[.int .i64 64] w fun e w' => e = .returned (.string (BA z64)) ∧ Below w.heap.size w w' := by
  obtain ⟨zc, mk, cv⟩ := zeros_run 64 (by decide)
  rw [show List.replicate 64 0 = z64 from rfl] at cv
  have mk5 : (Instr.makeSlice 43 (.int .i64 64) (.int .i64 64)).run Try.prog w = .ok (.slice (some ⟨w.heap.size, 0, none⟩) 64 64) (w.alloc (.cells zc 5)) := mk w
  have cv5 := cv w
  clear mk cv
  go_enter Try.func24, Try.ntmps24
  go_wp2
  go_ret
  exact ⟨rfl, (Below.refl _ w).alloc (Nat.le_refl _) _⟩

set_option maxRecDepth 20000 in
set_option maxHeartbeats 1000000 in
theorem rfree_any (w : World) (q r : Nat) (l : BL) (H : RBAt w q r l) : Calls Try.prog 22 #[.pointer (some ⟨q, 0, none⟩)] w fun e w' => e = .returned (.int .i64 (freeN l : Int)) ∧ w' = w := by
  obtain ⟨hw, c, cs, k1, k2, h3, h4, h5, h6, hT⟩ := H
  have hmx := hw.max
  have q0 := k1.cell 0 rfl
  obtain ⟨n, hn⟩ : ∃ n, n = l.length := ⟨_, rfl⟩
  rw [← hn] at q0 h3 hmx
  have HN := hide hn
  have HT := hide hT
  have HK := hide k2
  obtain ⟨fr, hr⟩ : ∃ fr : Int, fr = (freeN l : Int) := ⟨_, rfl⟩
  rw [← hr]
  have HR := hide hr
  clear hn hT k1 k2 hr h6
  go_enter Try.func22, Try.ntmps22
  go_wp2
  go_loop [3, 4] (fun f i => ∃ k m : Nat, i = .int .i64 ((k : Int) + 1) ∧ f = .int .i64 m ∧ k ≤ n ∧ m ≤ k ∧ Hid (m = (l.take k).countP (·.isEmpty))) (fun _ i => n + 1 - (intOf i).toNat)
  case atStart => exact ⟨0, 0, rfl, rfl, Nat.zero_le _, Nat.le_refl _, hide rfl⟩
  case round =>
    obtain ⟨k, m, rfl, rfl, hk, hm, HM⟩ := hrel
    by_cases hlt : k < n
    · obtain ⟨x, hx⟩ : ∃ x, l[k]? = some x := ⟨_, List.getElem?_eq_getElem (by have := unhide HN; omega)⟩
      have c1 := (unhide HK).cell _ (unhide HT k x hx)
      have hk1 : (k : Int) + 1 < (n : Int) + 1 := by omega
      have HC := hide (count_take hx)
      clear hx
      cases x with
      | nil =>
        rw [show BA [] = ⟨#[]⟩ from rfl] at c1
        go_wp2
        go_round
        case rel => exact ⟨k + 1, m + 1, by go_num, by go_num, by omega, by omega, hide (by rw [unhide HC, ← unhide HM]; rfl)⟩
        case measure => simp [intOf]; omega
      | cons y ys =>
        have hs : (BA (y :: ys)).toList.isEmpty = false := by rw [ByteArray.toList_eq]; rfl
        obtain ⟨s, hse⟩ : ∃ s, s = BA (y :: ys) := ⟨_, rfl⟩
        rw [← hse] at c1 hs
        clear hse
        go_wp2
        go_round
        case rel => exact ⟨k + 1, m, by go_num, rfl, by omega, by omega, hide (by rw [unhide HC, ← unhide HM]; rfl)⟩
        case measure => simp [intOf]; omega
    · have HE : Hid (k = n) := hide (by omega)
      have hk1 : ¬ (k : Int) + 1 < (n : Int) + 1 := by omega
      go_wp2
      go_ret
      refine ⟨ret_int ?_, rfl⟩
      have h1 := unhide HM
      rw [List.take_of_length_le (by have := unhide HN; have := unhide HE; omega)] at h1
      rw [unhide HR, freeN, ← h1]

theorem max4097 : (4097 : Nat) ≤ maxLen := by decide
theorem mk_texts (n : Nat) (hn : n + 1 ≤ 4097) : ∃ cs : Array Value, cs.size = n + 1 ∧ cs[0]? = some (.string (BA [])) ∧ Texts (List.replicate n []) cs ∧ ∀ u : World, (Instr.makeSlice 53 (.int .i64 ((n : Int) + 1)) (.int .i64 ((n : Int) + 1))).run Try.prog u = .ok (.slice (some ⟨u.heap.size, 0, none⟩) (n + 1) (n + 1)) (u.alloc (.cells cs 9)) := by
  obtain ⟨i, hi, hz, hs, hb⟩ := info2 (t := 9) (z := some (.string ⟨#[]⟩)) (a := 1) (c := 16) (by kernel_rfl)
  have hat : ∀ k, k < n + 1 → (madeCells #[.string ⟨#[]⟩] (n + 1))[k]? = some (.string (BA [])) := fun k hk => made_at _ _ _ hk (fun m hm => by
    match m, hm with
    | 0, _ => rfl) (by decide)
  refine ⟨madeCells #[.string ⟨#[]⟩] (n + 1), size_madeCells _ _, hat 0 (by omega), ?_, fun u => ?_⟩
  · intro k x hx
    obtain ⟨hk, rfl⟩ := List.getElem?_eq_some_iff.1 hx
    rw [List.length_replicate] at hk
    rw [hat (k + 1) (by omega), List.getElem_replicate]
  · have := run_make (P := Try.prog) u 53 9 i (.string ⟨#[]⟩) (by kernel_rfl) hi hz .i64 .i64 ((n : Int) + 1) ((n : Int) + 1) (by omega) (Int.le_refl _) (by rw [hb]; omega) (by omega)
    rw [hs, show ((n : Int) + 1).toNat = n + 1 by omega] at this
    simpa [Value.cells] using this

set_option maxRecDepth 20000 in
theorem rnew_no (n : Int) (w : World) (h : n < 1 ∨ 4096 < n) : Calls Try.prog 9 #[.int .i64 n] w fun e w' => e = .returned (.tuple #[.pointer none, .int .i64 1]) ∧ w' = w := by
  by_cases h1 : n < 1
  · go_enter Try.func9, Try.ntmps9
    go_wp2
    go_ret2
    exact ⟨rfl, rfl⟩
  · have h2 : 4096 < n := by omega
    go_enter Try.func9, Try.ntmps9
    go_wp2
    go_ret2
    exact ⟨rfl, rfl⟩
set_option maxRecDepth 20000 in
set_option maxHeartbeats 1000000 in
theorem rnew_any (n : Nat) (w : World) (h1 : 1 ≤ n) (h2 : n ≤ 4096) : Calls Try.prog 9 #[.int .i64 (n : Int)] w fun e w' => ∃ q r, e = .returned (.tuple #[.pointer (some ⟨q, 0, none⟩), .int .i64 0]) ∧ RBAt w' q r (List.replicate n []) ∧ Below w.heap.size w w' ∧ w.heap.size ≤ q ∧ w.heap.size ≤ r := by
  obtain ⟨cs, hc1, hc0, hT, mk⟩ := mk_texts n (by omega)
  have HR : Hid (RBAt ((w.alloc (.cells cs 9)).alloc (.cells #[.slice (some ⟨w.heap.size, 0, none⟩) (n + 1) (n + 1)] 55)) (w.heap.size + 1) w.heap.size (List.replicate n []) ∧ Below w.heap.size w ((w.alloc (.cells cs 9)).alloc (.cells #[.slice (some ⟨w.heap.size, 0, none⟩) (n + 1) (n + 1)] 55))) := hide (by
    refine ⟨⟨wf_new h1 h2, n + 1, cs, ?_, (Blk.new _ _ _).alloc _, by rw [List.length_replicate]; exact Nat.le_refl _, hc1, Nat.le_trans (by omega) max4097, hc0, hT⟩, ((Below.refl _ w).alloc (Nat.le_refl _) _).alloc (by simp) _⟩
    rw [List.length_replicate]
    have := Blk.new (w.alloc (.cells cs 9)) 55 #[.slice (some ⟨w.heap.size, 0, none⟩) (n + 1) (n + 1)]
    simpa using this)
  have mk1 := mk w
  have n1 : ¬ (n : Int) < 1 := by omega
  have n2 : ¬ (4096 : Int) < (n : Int) := by omega
  clear mk hc1 hc0 hT
  go_enter Try.func9, Try.ntmps9
  go_wp2
  go_ret2
  exact ⟨w.heap.size + 1, rfl, w.heap.size, (unhide HR).1, (unhide HR).2, by omega, Nat.le_refl _⟩

set_option maxRecDepth 20000 in
set_option maxHeartbeats 1000000 in
theorem rcopy_any (w : World) (q r : Nat) (l : BL) (H : RBAt w q r l) : Calls Try.prog 20 #[.pointer (some ⟨q, 0, none⟩)] w fun e w' => ∃ q' r', e = .returned (.pointer (some ⟨q', 0, none⟩)) ∧ RBAt w' q' r' l ∧ Below w.heap.size w w' ∧ w.heap.size ≤ q' ∧ w.heap.size ≤ r' := by
  obtain ⟨hw, c, cs, k1, k2, h3, h4, h5, h6, hT⟩ := H
  have q0 := k1.cell 0 rfl
  have hmx := hw.max
  obtain ⟨i, hi, hz, hs, hb⟩ := info2 (t := 9) (z := some (.string ⟨#[]⟩)) (a := 1) (c := 16) (by kernel_rfl)
  have ho : ∀ u ∈ cs.toList.take (l.length + 1), u.oneCell' = true := by
    intro u hu
    obtain ⟨k, hk⟩ := List.getElem?_of_mem hu
    rw [List.getElem?_take] at hk
    split at hk
    · rename_i hk2
      rw [Array.getElem?_toList] at hk
      cases k with
      | zero =>
        rw [h6] at hk
        cases hk
        rfl
      | succ k =>
        rw [hT k _ (List.getElem?_eq_getElem (by omega))] at hk
        cases hk
        rfl
    · cases hk
  obtain ⟨g', cap, W, hr, o2, o3, o4, o5⟩ := run_append_lies (P := Try.prog) w 53 0 w.heap.size 9 i (.string ⟨#[]⟩) 1 16 (by kernel_rfl) hi hz hs hb (by kernel_rfl) (by decide) (.slice none 0 0) 0 [] (World.ownsRow_nil _ _ _ _)
    ⟨r, 0, none⟩ (l.length + 1) c (cs.toList.take (l.length + 1)) (by rw [Nat.mul_one, List.length_take, Nat.min_eq_left (Nat.le_trans (Nat.le_trans h3 (Nat.le_of_eq h4.symm)) (by simp))]) (fun j u hj => by
      rw [add_o, Nat.zero_add]
      refine k2.cell j ?_
      rw [List.getElem?_take] at hj
      split at hj
      · simpa using hj
      · cases hj) ho (by omega) (Nat.le_trans (by omega) max4097) (by omega) (Nat.le_refl _) _ rfl
  have hbW : Below w.heap.size w W := below_of_grown o3
  rw [Nat.zero_add, List.nil_append] at o2
  obtain ⟨_, ⟨h0, _⟩ | ⟨g2, cap2, cur, he, hbg, hg, hnc, hcm, hcs, htake⟩⟩ := o2
  · cases h0
  cases he
  have hcur : ∀ j, j < l.length + 1 → cur[j]? = cs[j]? := fun j hj => by
    have h7 : (cur.toList.take ((l.length + 1) * 1))[j]? = (cs.toList.take (l.length + 1))[j]? := by rw [htake]
    rw [List.getElem?_take, List.getElem?_take, if_pos (by omega), if_pos hj] at h7
    simpa using h7
  have HR : Hid (RBAt (W.alloc (.cells #[.slice (some ⟨g', 0, none⟩) (l.length + 1) cap] 55)) W.heap.size g' l ∧ Below w.heap.size w (W.alloc (.cells #[.slice (some ⟨g', 0, none⟩) (l.length + 1) cap] 55)) ∧ w.heap.size ≤ W.heap.size ∧ w.heap.size ≤ g') := hide (by
    refine ⟨⟨hw, cap, cur, Blk.new _ _ _, Blk.alloc hg _, hnc, by omega, hcm, by rw [hcur 0 (by omega)]; exact h6, fun j x hx => ?_⟩, hbW.trans (((Below.refl _ W).alloc (Nat.le_refl _) _).mono hbW.size), hbW.size, hbg⟩
    rw [hcur (j + 1) (by have := (List.getElem?_eq_some_iff.1 hx).1; omega)]
    exact hT j x hx)
  have HRR : Hid (∀ ty, (Builtin.append_ #[53, 53] ty #[.slice none 0 0, .slice (some ⟨r, 0, none⟩) (l.length + 1) c]).run Try.prog w = .ok (.slice (some ⟨g', 0, none⟩) (l.length + 1) cap) W) := hide (fun ty => by
    rw [Nat.zero_add] at hr
    exact hr)
  obtain ⟨n, hn⟩ : ∃ n, n = l.length + 1 := ⟨_, rfl⟩
  rw [← hn] at q0 HR HRR
  clear hw k1 k2 h3 h4 h5 h6 hT hmx hi hz hs hb ho hr o3 o4 o5 hbW hg hnc hcm hcs htake hcur hn hbg
  go_enter Try.func20, Try.ntmps20
  go_wp2_with (at_builtin; refine wpList_append_run rfl _ _ _ rfl _ _ _ rfl rfl (unhide HRR) ?_)
  go_ret
  exact ⟨_, _, rfl, unhide HR⟩


set_option maxRecDepth 20000 in
set_option maxHeartbeats 1000000 in
theorem rtake_any (w : World) (q r : Nat) (l : BL) (H : RBAt w q r l) : Calls Try.prog 12 #[.pointer (some ⟨q, 0, none⟩)] w fun e w' => e = .returned (.tuple #[.int .i64 (takeN l), .int .i64 (takeE l)]) ∧ RBAt w' q r (takeL l) ∧ GrownS w w' (fun k => k = r) := by
  have HH := hide H
  have hqr := H.ne
  obtain ⟨hw, c, cs, k1, k2, h3, h4, h5, h6, hT⟩ := H
  have hmx := hw.max
  have q0 := k1.cell 0 rfl
  obtain ⟨n, hn⟩ : ∃ n, n = l.length := ⟨_, rfl⟩
  rw [← hn] at q0 h3 hmx
  have HN := hide hn
  have HT := hide hT
  have HK := hide k2
  have HQ : Hid (∀ W, Below w.heap.size w W → W.cell? ⟨q, 0, none⟩ = some (.slice (some ⟨r, 0, none⟩) (n + 1) c)) := hide (fun W hb => by
    have := (k1.below hb k1.lt).cell 0 rfl
    rwa [← hn] at this)
  have HFL : Hid (freeAt l ≤ n) := hide (by rw [hn]; exact List.findIdx_le_length)
  have HF : Hid (∀ i, i < freeAt l → ∃ x, l[i]? = some x ∧ x ≠ []) := hide (fun i hi => by
    have h7 : i < l.length := by have := unhide HFL; omega
    refine ⟨l[i], List.getElem?_eq_getElem h7, fun e => ?_⟩
    have := List.not_of_lt_findIdx (show i < l.findIdx (·.isEmpty) from hi)
    rw [e] at this
    cases this)
  have HG : Hid (freeAt l < n → l[freeAt l]? = some []) := hide (fun h => by
    have h7 : freeAt l < l.length := by omega
    have h2 : (l[freeAt l]).isEmpty = true := List.findIdx_getElem (w := h7)
    rw [List.getElem?_eq_getElem h7, List.isEmpty_iff.1 h2])
  have HA : Hid ((freeAt l < n → takeN l = (freeAt l : Int) + 1 ∧ takeE l = 0 ∧ takeL l = l.set (freeAt l) z64) ∧ (¬ freeAt l < n → takeN l = 0 ∧ takeE l = 20 ∧ takeL l = l)) := hide (by
    unfold takeN takeE takeL
    rw [hn]
    exact ⟨fun h => ⟨if_pos h, if_pos h, if_pos h⟩, fun h => ⟨if_neg h, if_neg h, if_neg h⟩⟩)
  obtain ⟨f, hf⟩ : ∃ f, f = freeAt l := ⟨_, rfl⟩
  rw [← hf] at HF HFL HG HA
  obtain ⟨tn, htn⟩ : ∃ tn, tn = takeN l := ⟨_, rfl⟩
  obtain ⟨te, hte⟩ : ∃ te, te = takeE l := ⟨_, rfl⟩
  obtain ⟨tl, htl⟩ : ∃ tl, tl = takeL l := ⟨_, rfl⟩
  rw [← htn, ← hte, ← htl] at HA ⊢
  clear hn hT k1 k2 hf htn hte htl h6
  go_enter Try.func12, Try.ntmps12
  go_wp2
  go_loop [4] (fun i => ∃ k : Nat, i = .int .i64 ((k : Int) + 1) ∧ k ≤ f) (fun i => n + 1 - (intOf i).toNat)
  case atStart => exact ⟨0, rfl, Nat.zero_le _⟩
  case round =>
    obtain ⟨k, rfl, hk⟩ := hrel
    have hfn := unhide HFL
    by_cases hlt : k < n
    · have hk1 : (k : Int) + 1 < (n : Int) + 1 := by omega
      by_cases e : k = f
      · have hG := unhide HG (by omega)
        rw [← e] at hG
        have c1 := (unhide HK).cell _ (unhide HT k [] hG)
        rw [show BA [] = ⟨#[]⟩ from rfl] at c1
        have HE := hide e
        have HZ : Hid (∀ W, Below w.heap.size w W → Calls Try.prog 24 #[.int .i64 64] W fun e w' => e = .returned (.string (BA z64)) ∧ w'.cell? ⟨q, 0, none⟩ = some (.slice (some ⟨r, 0, none⟩) (n + 1) c) ∧ w'.cell? ⟨r, k + 1, none⟩ = some (.string ⟨#[]⟩) ∧ w'.frozen? ⟨r, k + 1, none⟩ = false ∧ Hid (Below w.heap.size w w')) := hide (fun W hb => (rzeros_any W).mono (fun e w' ⟨h1, h2⟩ => by
          have h7 := hb.trans (h2.mono hb.size)
          have h8 := (unhide HK).below h7 (unhide HK).lt
          exact ⟨h1, unhide HQ _ h7, h8.cell _ (unhide HT k [] hG), h8.frozen _, hide h7⟩))
        clear e
        have hk0 : (0 : Int) ≤ (k : Int) + 1 := by omega
        go_wp2_with fail
        go_region_held3 (fun w' => w'.cell? ⟨q, 0, none⟩ = some (.slice (some ⟨r, 0, none⟩) (n + 1) c)) (first | go_keep | exact set_far hqr d0) ((go_at_call 24; refine (unhide HZ _ (by first | exact Below.refl _ _ | exact below_drew _ _)).mono ?_; rintro e w1 ⟨rfl, d0, d1, d2, HB⟩))
        obtain ⟨a1, a2, a3⟩ := (unhide HA).1 (by have := unhide HE; omega)
        have HR : Hid (RBAt (w1.setCell ⟨r, k + 1, none⟩ (.string (BA z64))) q r tl ∧ GrownS w (w1.setCell ⟨r, k + 1, none⟩ (.string (BA z64))) (fun k => k = r)) := hide (by
          rw [a3, ← unhide HE]
          exact ⟨((unhide HH).below (unhide HB)).set (by have := unhide HN; omega) (.inr rfl), (grownS_of_below (unhide HB)).trans (setb_grown _ _ _ _)⟩)
        rw [← unhide HE] at a1
        have HA1 := hide a1
        have HA2 := hide a2
        clear a1 a2 a3 d0 d1 d2 hG
        go_wp2
        go_ret2
        refine ⟨?_, unhide HR⟩
        rw [unhide HA1, unhide HA2]
        rfl
      · obtain ⟨x, hx, hne⟩ := unhide HF k (by omega)
        have c1 := (unhide HK).cell _ (unhide HT k x hx)
        have hs : (BA x).toList.isEmpty = false := by
          rw [ByteArray.toList_eq]
          cases x with
          | nil => exact absurd rfl hne
          | cons => rfl
        obtain ⟨s, hse⟩ : ∃ s, s = BA x := ⟨_, rfl⟩
        rw [← hse] at c1 hs
        clear hse hx hne
        go_wp2
        go_round
        case rel => exact ⟨k + 1, by go_num, by omega⟩
        case measure => simp [intOf]; omega
    · have hk1 : ¬ (k : Int) + 1 < (n : Int) + 1 := by omega
      go_wp2
      go_ret2
      obtain ⟨a1, a2, a3⟩ := (unhide HA).2 (by omega)
      rw [a1, a2, a3]
      exact ⟨rfl, unhide HH, grownS_of_below (Below.refl _ _)⟩

set_option maxRecDepth 20000 in
set_option maxHeartbeats 1000000 in
theorem rwrite_any (w : World) (q r : Nat) (l : BL) (b a : Int) (d : List UInt8) (H : RBAt w q r l) (hb : -9223372036854775808 ≤ b ∧ b ≤ 9223372036854775807) (ha : -9223372036854775808 ≤ a ∧ a ≤ 9223372036854775807) :
    Calls Try.prog 18 #[.pointer (some ⟨q, 0, none⟩), .int .i64 b, .int .i64 a, .string (BA d)] w fun e w' => e = .returned (.int .i64 (writeE l b a d)) ∧ RBAt w' q r (writeL l b a d) ∧ GrownS w w' (fun k => k = r) := by
  have HH := hide H
  have HF := hide (ris_any w q r l b H hb)
  cases ht : tkn l b with
  | false =>
    rw [ht] at HF
    rw [show writeE l b a d = 23 by unfold writeE; rw [ht]; rfl, show writeL l b a d = l by unfold writeL; rw [ht]; rfl]
    clear ht H
    go_enter Try.func18, Try.ntmps18
    go_wp2_with fail
    refine (unhide HF).mono ?_
    rintro e w1 ⟨rfl, hw1⟩
    rw [show w1 = w from hw1]
    clear hw1
    go_wp2
    go_ret
    exact ⟨rfl, unhide HH, grownS_of_below (Below.refl _ _)⟩
  | true =>
    obtain ⟨i, x, rfl, hi, hx, hne, e1, e2⟩ := tkn_some ht
    rw [ht] at HF
    cases hin : inB a d.length with
    | false =>
      rw [show writeE l ((i : Int) + 1) a d = 1 by unfold writeE; rw [ht, hin]; rfl, show writeL l ((i : Int) + 1) a d = l by unfold writeL; rw [ht, hin]; rfl]
      have hc : a < 0 ∨ (0 ≤ a ∧ 64 < a) ∨ (0 ≤ a ∧ a ≤ 64 ∧ 64 - a < (d.length : Int)) := by
        have := inB_no hin
        omega
      clear ht H hin e1 e2 hx
      rcases hc with h1 | ⟨h1, h2⟩ | ⟨h1, h2, h3⟩
      all_goals
        go_enter Try.func18, Try.ntmps18
        go_wp2_with fail
        refine (unhide HF).mono ?_
        rintro e w1 ⟨rfl, hw1⟩
        rw [show w1 = w from hw1]
        clear hw1
        go_wp2
        go_ret
        exact ⟨rfl, unhide HH, grownS_of_below (Below.refl _ _)⟩
    | true =>
      obtain ⟨h1, h2, h3⟩ := inB_some hin
      obtain ⟨o, rfl⟩ : ∃ o : Nat, a = o := ⟨a.toNat, by omega⟩
      have hlx := H.wf.len hx hne
      have hqr := H.ne
      rw [show writeE l ((i : Int) + 1) o d = 0 by unfold writeE; rw [ht, hin]; rfl, show writeL l ((i : Int) + 1) o d = l.set i (putAt x o d) by unfold writeL; rw [ht, hin, e1, e2]; rfl]
      have HR : Hid (∀ W, Below w.heap.size w W → RBAt (W.setCell ⟨r, i + 1, none⟩ (.string (BA (x.take o) ++ BA d ++ BA (x.drop (o + d.length))))) q r (l.set i (putAt x o d)) ∧ GrownS w (W.setCell ⟨r, i + 1, none⟩ (.string (BA (x.take o) ++ BA d ++ BA (x.drop (o + d.length))))) (fun k => k = r)) := hide (fun W hb => by
        rw [put_BA]
        exact ⟨(H.below hb).set hi (.inr (put_len hlx (by omega))), (grownS_of_below hb).trans (setb_grown _ _ _ _)⟩)
      obtain ⟨hw, c, cs, k1, k2, h3', h4, h5, h6, hT⟩ := H
      have q0 := k1.cell 0 rfl
      have c2 := k2.cell _ (hT i x hx)
      have f2 := k2.frozen (i + 1)
      have g1 := ext_take x o
      have g2 := ext_drop x (o + d.length) 64 hlx
      obtain ⟨m, hm⟩ : ∃ m, m = l.length := ⟨_, rfl⟩
      rw [← hm] at q0 hi
      have hi1 : (i : Int) + 1 < (m : Int) + 1 := by omega
      have hi0 : (0 : Int) ≤ (i : Int) + 1 := by omega
      have hl1 : (x.take o).length ≤ 64 := by rw [List.length_take]; omega
      have hl2 : (x.drop (o + d.length)).length ≤ 64 := by rw [List.length_drop]; omega
      have t1 : (o : Int) + (d.length : Int) ≤ 64 := by omega
      have t2 : ¬ (64 : Int) < (o : Int) := by omega
      have t3 : ¬ (64 : Int) - (o : Int) < (d.length : Int) := by omega
      have t4 : (o : Int) ≤ 64 := by omega
      have t5 : (0 : Int) ≤ (o : Int) := by omega
      have t6 : (0 : Int) ≤ (o : Int) + (d.length : Int) := by omega
      clear ht hin e1 e2 hx hT k1 k2 hne h3 hm h3' h4 HH
      go_enter Try.func18, Try.ntmps18
      go_wp2_with fail
      refine (unhide HF).mono ?_
      rintro e w1 ⟨rfl, hw1⟩
      rw [show w1 = w from hw1]
      clear hw1
      go_wp2_with fail
      go_region
      go_wp2
      go_ret
      have hR := unhide HR w (Below.refl _ _)
      exact ⟨rfl, hR.1.below (below_drew _ 1), hR.2.trans (grownS_of_below (below_drew _ 1))⟩

end Go.Proofs.Ytfolnccpnncmiaa

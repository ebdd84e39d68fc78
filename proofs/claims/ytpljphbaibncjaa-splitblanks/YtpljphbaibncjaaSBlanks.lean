/-
  SplitBlanks: words with blanks between, ahead and behind.
-/
import Derived.Test.YtpljphbaibncjaaSHard
namespace Go.Proofs.Ytpljphbaibncjaa
open Go.RowKit

def blk3 : List UInt8 := [32, 9, 10]
def wantL (L : List (List UInt8)) : List (List UInt8) := L.filter fun t => !t.isEmpty
/-- What there is behind a text T: the words so far. -/
def Set3 (T : List UInt8) (W : List (List UInt8)) : Prop := ∃ st, T.foldl (byteS blk3) ss0 = st ∧ st.there = !st.made.isEmpty ∧ (closeS st).out = W.map (qt false)
/-- The same, and no field is being made. -/
def Set0 (T : List UInt8) (W : List (List UInt8)) : Prop := ∃ m, T.foldl (byteS blk3) ss0 = ⟨W.map (qt false), [], false, m⟩
theorem set0_of {T : List UInt8} {W : List (List UInt8)} (h : Set0 T W) : Set3 T W := by
  obtain ⟨m, h⟩ := h
  exact ⟨_, h, rfl, rfl⟩
theorem kind_blank {c : UInt8} (h : c = 32 ∨ c = 9 ∨ c = 10) : kindB blk3 c = 1 := by rcases h with rfl | rfl | rfl <;> rfl
theorem set3_blank {T : List UInt8} {W : List (List UInt8)} {c : UInt8} (h : Set3 T W) (hc : c = 32 ∨ c = 9 ∨ c = 10) : Set0 (T ++ [c]) W := by
  obtain ⟨st, h1, h2, h3⟩ := h
  have e : (T ++ [c]).foldl (byteS blk3) ss0 = softS st := by
    rw [List.foldl_append, h1]
    show byteS blk3 st c = _
    unfold byteS
    rw [kind_blank hc]
    rfl
  unfold Set0
  rw [e]
  obtain ⟨out, made, there, mark⟩ := st
  simp only at h2
  subst h2
  cases made with
  | nil =>
    refine ⟨mark, ?_⟩
    rw [← h3]
    rfl
  | cons x r =>
    refine ⟨true, ?_⟩
    rw [← h3]
    rfl
theorem set0_word {T : List UInt8} {W : List (List UInt8)} {t : List UInt8} (h : Set0 T W) (ht : ∀ c ∈ t, hasB blk3 c = false) : Set3 (T ++ t) (W ++ wantL [t]) := by
  obtain ⟨m, h⟩ := h
  cases t with
  | nil =>
    rw [List.append_nil, show wantL [[]] = [] from rfl, List.append_nil]
    exact set0_of ⟨m, h⟩
  | cons c t =>
    have hk : kindB blk3 c = 0 := by unfold kindB; rw [show blk3.contains c = false from ht c (by simp)]; rfl
    have e : (T ++ c :: t).foldl (byteS blk3) ss0 = ⟨W.map (qt false), qt false (c :: t), true, false⟩ := by
      rw [List.foldl_append, h, List.foldl_cons, show byteS blk3 ⟨W.map (qt false), [], false, m⟩ c = addS ⟨W.map (qt false), [], false, m⟩ [c] false by unfold byteS; rw [hk]; rfl,
        bytes_other blk3 t _ (fun x hx => ht x (by simp [hx])) rfl]
      simp [addS, qt]
    refine ⟨_, e, rfl, ?_⟩
    rw [List.map_append]
    rfl
theorem set3_fields {T : List UInt8} {W : List (List UInt8)} (h : Set3 T W) : fieldsL blk3 [⟨T, false, true, false⟩] = W.map (qt false) := by
  obtain ⟨st, h1, _, h3⟩ := h
  unfold fieldsL runS
  rw [List.foldl_cons, List.foldl_nil, show pieceS blk3 ss0 ⟨T, false, true, false⟩ = T.foldl (byteS blk3) ss0 from rfl, h1]
  exact h3
theorem want_take {L : List (List UInt8)} {k : Nat} {x : List UInt8} (h : L[k]? = some x) : wantL (L.take (k + 1)) = wantL (L.take k) ++ wantL [x] := by
  unfold wantL
  rw [List.take_add_one, h, List.filter_append]
  rfl
theorem want_le (L : List (List UInt8)) : (wantL L).length ≤ L.length := List.length_filter_le _ _

theorem und_strs : Try.prog.underlying 44 = some (.slice 9) := by kernel_rfl
theorem info_str : (Try.prog.info? 9).map (fun i => (i.zero, i.size, i.bytes)) = some (some (.string ⟨#[]⟩), 1, 16) := by kernel_rfl
theorem one_str {x : ByteArray} : ∀ u ∈ [Value.string x], u.oneCell' = true := by
  intro u hu; simp at hu; subst hu; rfl
theorem trow_of {w : World} {B n : Nat} {v : Value} {l : List (List UInt8)} (h : w.ownsRow B 9 1 v n (l.map fun x => .string (BA x))) : TRow w v l := by
  have hl : l.length = n := by have := h.1; simpa using this
  obtain ⟨_, ⟨hv, h0⟩ | ⟨g, cap, cur, hv, hb, hg, _, _, _, htk⟩⟩ := h
  · refine ⟨none, 0, by rw [hv, hl, h0], fun i x hi => ?_⟩
    have := (List.getElem?_eq_some_iff.1 hi).1
    omega
  · refine ⟨_, cap, by rw [hl]; exact hv, fun i x hi => ⟨g, 0, rfl, (Array.getElem?_eq_some_iff.1 hg).1, ?_⟩⟩
    have hil := (List.getElem?_eq_some_iff.1 hi).1
    have e1 : (cur.toList.take (n * 1))[i]? = some (.string (BA x)) := by rw [htk, List.getElem?_map, hi]; rfl
    rw [List.getElem?_take, if_pos (by omega)] at e1
    exact Blk.cell (show Blk w g 9 cur from hg) (0 + i) (by simpa using e1)
theorem gap_is (z : Int) : ∃ n : Nat, wrap64 (1 + (wrap64 (z.tmod 5 + 5)).tmod 5) = n ∧ 1 ≤ n ∧ n ≤ 5 := by
  have h1 : -5 < z.tmod 5 ∧ z.tmod 5 < 5 := by
    rcases Int.le_total 0 z with h | h
    · rw [Int.tmod_eq_emod_of_nonneg h]; omega
    · have e := Int.neg_tmod (-z) 5
      rw [Int.neg_neg, Int.tmod_eq_emod_of_nonneg (a := -z) (by omega)] at e
      omega
  obtain ⟨y, hy⟩ : ∃ y, y = z.tmod 5 := ⟨_, rfl⟩
  rw [← hy] at h1 ⊢
  have h2 : wrap64 (y + 5) = y + 5 := by unfold wrap64; omega
  have h3 : (y + 5).tmod 5 = (y + 5) % 5 := Int.tmod_eq_emod_of_nonneg (by omega)
  have h4 : wrap64 (1 + (y + 5) % 5) = 1 + (y + 5) % 5 := by unfold wrap64; omega
  rw [h2, h3, h4]
  exact ⟨(1 + (y + 5) % 5).toNat, by omega, by omega, by omega⟩

set_option maxRecDepth 20000 in
set_option maxHeartbeats 4000000 in
theorem blanks_walk (v u : Value) (L : List (List UInt8)) (G : List Int) (w : World) (h : TRow w v L) (hg : IRow w u G) (hG : G.length ≤ maxLen) : Calls Try.prog 6 #[v, u] w fun e w' => e = .returned (.bool true) ∧ Below w.heap.size w w' := by
  have HAW : Hid (∀ W, Below w.heap.size w W → Calls Try.prog 9 #[] W fun e w' => e = .returned (.bool true) ∧ Below w.heap.size w w') := hide (fun W hW => (awake_any W).mono (fun e w' ⟨h1, h2⟩ => ⟨h1, hW.trans (h2.mono hW.size)⟩))
  obtain ⟨i9, hi9, hz0, hz1, hz2⟩ := info_of info_str
  obtain ⟨ad, cap, rfl, hp⟩ := h
  obtain ⟨gd, gcap, rfl, hq⟩ := hg
  obtain ⟨N, hN⟩ : ∃ N, N = L.length := ⟨_, rfl⟩
  obtain ⟨M, hM⟩ : ∃ M, M = G.length := ⟨_, rfl⟩
  rw [← hN, ← hM]
  rw [← hM] at hG
  unfold maxLen at hG
  have HN := hide hN
  have HM := hide hM
  have HP : Hid (∀ (i : Nat) (x : List UInt8), L[i]? = some x → ∃ g o, ad = some ⟨g, o, none⟩ ∧ ∀ W, Below w.heap.size w W → W.cell? ⟨g, o + i, none⟩ = some (.string (BA x))) := hide (fun i x hi => by
    obtain ⟨g, o, e, hg, c⟩ := hp i x hi
    exact ⟨g, o, e, fun W hW => (hW.cell (p := ⟨g, _, none⟩) hg).trans c⟩)
  have HQ : Hid (∀ (i : Nat) (x : Int), G[i]? = some x → ∃ g o, gd = some ⟨g, o, none⟩ ∧ ∀ W, Below w.heap.size w W → W.cell? ⟨g, o + i, none⟩ = some (.int .i64 x)) := hide (fun i x hi => by
    obtain ⟨⟨g, o, e, hg, c⟩, _⟩ := hq i x hi
    exact ⟨g, o, e, fun W hW => (hW.cell (p := ⟨g, _, none⟩) hg).trans c⟩)
  clear hN hM hp hq
  by_cases h10 : N ≤ 10
  · go_enter Try.func6, Try.ntmps6
    go_wp2
    go_loopw [6, 7, 8] (fun s u7 i wr => ∃ (k : Nat) (T : List UInt8), i = .int .i64 k ∧ k ≤ N ∧ s = .string (BA T) ∧ T.length ≤ 30 * k ∧ Hid (Set3 T (wantL (L.take k)) ∧ Below w.heap.size w wr ∧ wr.ownsRow w.heap.size 9 1 u7 (wantL (L.take k)).length ((wantL (L.take k)).map fun x => .string (BA x)))) (fun _ _ i _ => N + 1 - (intOf i).toNat)
    case atStart => exact ⟨0, [], rfl, Nat.zero_le _, rfl, Nat.zero_le _, hide ⟨set0_of ⟨false, rfl⟩, Below.refl _ _, World.ownsRow_nil _ _ _ _⟩⟩
    case round =>
      obtain ⟨k, T, rfl, hk, rfl, hT, HI⟩ := hrel
      have hkn : (k : Int) ≤ (N : Int) := by omega
      rcases Nat.lt_or_ge k M with hkg | hkg
      · have hkg1 : (k : Int) < (M : Int) := Int.ofNat_lt.2 hkg
        obtain ⟨z, hz⟩ : ∃ z, G[k]? = some z := ⟨_, List.getElem?_eq_getElem (by have := unhide HM; omega)⟩
        obtain ⟨g, o, rfl, hc⟩ := unhide HQ k z hz
        have c0 := hc wr (unhide HI).2.1
        obtain ⟨n, hn, hn1, hn5⟩ := gap_is z
        clear hc hz
        go_wp2
        rw [hn]
        clear hn c0
        go_loop [6, 10] (fun s i => ∃ (j : Nat) (T' : List UInt8), i = .int .i64 j ∧ j ≤ n ∧ s = .string (BA T') ∧ T'.length ≤ 30 * k + j ∧ Hid (if j = 0 then Set3 T' (wantL (L.take k)) else Set0 T' (wantL (L.take k)))) (fun _ i => n - (intOf i).toNat)
        case atStart => exact ⟨0, T, rfl, Nat.zero_le _, rfl, by omega, hide (unhide HI).1⟩
        case round =>
          clear hT
          obtain ⟨j, T, rfl, hj, rfl, hT, HS⟩ := hrel
          by_cases hjn : j < n
          · obtain ⟨r, hr, hr3⟩ : ∃ r : Nat, ((k : Int) + (j : Int)).tmod 3 = r ∧ r < 3 := ⟨(k + j) % 3, by rw [Int.tmod_eq_emod_of_nonneg (by omega)]; omega, by omega⟩
            have hjn1 : (j : Int) < (n : Int) := by omega
            have hs0 : T.length ≤ 1000 := by omega
            have HSB : Hid (∀ c : UInt8, c = 32 ∨ c = 9 ∨ c = 10 → Set0 (T ++ [c]) (wantL (L.take k))) := hide (fun c hc => by
              have := unhide HS
              split at this
              · exact set3_blank this hc
              · exact set3_blank (set0_of this) hc)
            match r, hr3 with
            | 0, _ =>
              go_wp2
              go_round
              case rel => exact ⟨j + 1, T ++ [32], by go_num, by omega, rfl, by simp; omega, hide (by rw [if_neg (by omega)]; exact unhide HSB 32 (by simp))⟩
              case measure => simp [intOf]; omega
            | 1, _ =>
              go_wp2
              go_round
              case rel => exact ⟨j + 1, T ++ [9], by go_num, by omega, rfl, by simp; omega, hide (by rw [if_neg (by omega)]; exact unhide HSB 9 (by simp))⟩
              case measure => simp [intOf]; omega
            | 2, _ =>
              go_wp2
              go_round
              case rel => exact ⟨j + 1, T ++ [10], by go_num, by omega, rfl, by simp; omega, hide (by rw [if_neg (by omega)]; exact unhide HSB 10 (by simp))⟩
              case measure => simp [intOf]; omega
          · have HS0 : Hid (Set0 T (wantL (L.take k))) := hide (by have := unhide HS; rwa [if_neg (by omega)] at this)
            have hjn1 : ¬ (j : Int) < (n : Int) := by omega
            clear HS
            by_cases hkN : k < N
            · obtain ⟨x, hx⟩ : ∃ x, L[k]? = some x := ⟨_, List.getElem?_eq_getElem (by have := unhide HN; omega)⟩
              obtain ⟨gx, ox, rfl, hcx⟩ := unhide HP k x hx
              obtain ⟨xs, rfl⟩ : ∃ xs : ByteArray, x = xs.data.toList := ⟨BA x, rfl⟩
              have cx := hcx wr (unhide HI).2.1
              rw [BA_of] at cx
              have HX := hide hx
              have hne : ((k : Int) == (N : Int)) = false := by rw [beq_eq_false_iff_ne]; omega
              have hkN1 : (k : Int) < (N : Int) := by omega
              clear hcx hx
              by_cases hx20 : xs.size ≤ 20
              · go_wp2
                go_loop [11] (fun i => ∃ m : Nat, i = .int .i64 m ∧ m ≤ xs.size ∧ Hid (∀ c ∈ xs.data.toList.take m, hasB blk3 c = false)) (fun i => xs.size - (intOf i).toNat)
                case atStart => exact ⟨0, rfl, Nat.zero_le _, hide (fun c hc => by simp at hc)⟩
                case round =>
                  obtain ⟨m, rfl, hm, HC⟩ := hrel
                  by_cases hml : m < xs.size
                  · obtain ⟨c, hc⟩ : ∃ c : UInt8, xs[m]'hml = c := ⟨_, rfl⟩
                    have HWI : Hid (Calls Try.prog 18 #[.string ⟨#[32, 9, 10]⟩, .int .u8 (c.toNat : Int)] wr fun e w' => e = .returned (.bool (hasB blk3 c)) ∧ w' = wr) := hide (within_any blk3 c wr (by decide))
                    have HTK : Hid (xs.data.toList.take (m + 1) = xs.data.toList.take m ++ [c]) := hide (by rw [List.take_add_one, List.getElem?_eq_getElem (by rw [data_len]; exact hml), data_get xs m hml, hc]; rfl)
                    cases hb : hasB blk3 c with
                    | true =>
                      rw [hb] at HWI
                      clear hb
                      go_wp2_with fail
                      refine (unhide HWI).mono ?_
                      rintro e w1 ⟨rfl, hw1⟩
                      rw [show w1 = wr from hw1]
                      clear hw1
                      go_wp2_with fail
                      refine (unhide HAW _ (unhide HI).2.1).mono ?_
                      rintro e w2 ⟨rfl, b2⟩
                      have HB2 := hide b2
                      clear b2
                      go_wp2
                      go_ret
                      exact ⟨rfl, unhide HB2⟩
                    | false =>
                      rw [hb] at HWI
                      have HBF := hide hb
                      clear hb
                      go_wp2_with fail
                      refine (unhide HWI).mono ?_
                      rintro e w1 ⟨rfl, hw1⟩
                      rw [show w1 = wr from hw1]
                      clear hw1
                      go_wp2
                      go_round
                      case rel => exact ⟨m + 1, by go_num, by omega, hide (fun d hd => by
                        rw [unhide HTK] at hd
                        rcases List.mem_append.1 hd with hd | hd
                        · exact unhide HC d hd
                        · simp at hd
                          subst hd
                          exact unhide HBF)⟩
                      case measure => simp [intOf]; omega
                  · have HC2 : Hid (∀ c ∈ xs.data.toList, hasB blk3 c = false) := hide (by have := unhide HC; rwa [List.take_of_length_le (by rw [data_len]; omega)] at this)
                    have HW3 := hide (set0_word (unhide HS0) (unhide HC2))
                    have hml1 : ¬ (m : Int) < (xs.size : Int) := by omega
                    have hTl : T.length ≤ 1000 := by omega
                    cases hem : xs.data.toList.isEmpty with
                    | true =>
                      have he : xs.toList.isEmpty = true := by rw [Lib.toList_data]; exact hem
                      have HWW : Hid (wantL (L.take (k + 1)) = wantL (L.take k)) := hide (by rw [want_take (unhide HX), show wantL [xs.data.toList] = [] by unfold wantL; simp [hem], List.append_nil])
                      rw [show wantL [xs.data.toList] = [] by unfold wantL; simp [hem], List.append_nil] at HW3
                      clear hem
                      go_wp2
                      go_roundw
                      case rel => exact ⟨k + 1, T ++ xs.data.toList, by go_num, by omega, rfl, by rw [List.length_append, data_len]; omega, hide ⟨by rw [unhide HWW]; exact unhide HW3, (unhide HI).2.1, by rw [unhide HWW]; exact (unhide HI).2.2⟩⟩
                      case measure => simp [intOf]; omega
                    | false =>
                      have he : xs.toList.isEmpty = false := by rw [Lib.toList_data]; exact hem
                      have HWW : Hid (wantL (L.take (k + 1)) = wantL (L.take k) ++ [xs.data.toList]) := hide (by rw [want_take (unhide HX), show wantL [xs.data.toList] = [xs.data.toList] by unfold wantL; simp [hem]])
                      rw [show wantL [xs.data.toList] = [xs.data.toList] by unfold wantL; simp [hem], ← unhide HWW] at HW3
                      clear hem
                      obtain ⟨K, hK⟩ : ∃ K, K = (wantL (L.take k)).length := ⟨_, rfl⟩
                      have HK := hide hK
                      have hKl : K ≤ 10 := by have h1 := want_le (L.take k); have h2 := List.length_take_le k L; omega
                      have HOW : Hid (wr.ownsRow w.heap.size 9 1 u7 K ((wantL (L.take k)).map fun x => .string (BA x))) := hide (by rw [hK]; exact (unhide HI).2.2)
                      have hwz := (unhide HI).2.1.size
                      clear hK
                      go_wp2_with (first
                        | (at_builtin; refine wpList_append_own _ rfl _ _ 44 rfl w.heap.size 9 i9 (.string ⟨#[]⟩) 1 16 und_strs hi9 hz0 hz1 hz2 rfl (by decide) u7 K ((wantL (L.take k)).map fun x => .string (BA x)) rfl (World.ownsRow.alloc (unhide HOW) _) ⟨wr.heap.size, 0, none⟩ 1 1 [.string xs] rfl rfl one_cell one_str (by unfold maxLen; omega) (by omega) (by simp; omega) ?_)
                        | go_in)
                      intro v' w1 hown hgrow _
                      have HN2 := hide hown
                      have HGR : Hid (Below w.heap.size w w1) := hide ((unhide HI).2.1.trans (((Below.refl _ wr).alloc (Nat.le_refl _) _ |>.mono hwz).trans ((GrownS.of hgrow (fun _ e => e)).below (by simp; omega) (fun k e => (World.ownsRow.lt (unhide HOW) k e.symm).1))))
                      clear hown hgrow
                      go_wp2
                      go_roundw
                      case rel => exact ⟨k + 1, T ++ xs.data.toList, by go_num, by omega, rfl, by rw [List.length_append, data_len]; omega, hide ⟨unhide HW3, unhide HGR, by
                        have := unhide HN2
                        rw [unhide HK] at this
                        rw [unhide HWW, List.length_append, List.map_append]
                        exact this⟩⟩
                      case measure => simp [intOf]; omega
              · go_wp2_with fail
                refine (unhide HAW _ (unhide HI).2.1).mono ?_
                rintro e w2 ⟨rfl, b2⟩
                have HB2 := hide b2
                clear b2
                go_wp2
                go_ret
                exact ⟨rfl, unhide HB2⟩
            · obtain rfl : k = N := by omega
              have HTA : Hid (L.take k = L) := hide (List.take_of_length_le (by have := unhide HN; omega))
              rw [unhide HTA] at HS0 HI
              have HF := hide (fields_one wr ⟨T, false, true, false⟩ blk3 _ (set3_fields (set0_of (unhide HS0))) (by decide) (by simp only; omega))
              obtain ⟨K, hK⟩ : ∃ K, K = (wantL L).length := ⟨_, rfl⟩
              have HK := hide hK
              have hKl : K ≤ 10 := by have h1 := want_le L; have h2 := unhide HN; omega
              have HOW : Hid (wr.ownsRow w.heap.size 9 1 u7 K ((wantL L).map fun x => .string (BA x))) := hide (by rw [hK]; exact (unhide HI).2.2)
              obtain ⟨wa, wc, rfl⟩ := own_slice (unhide HOW)
              clear hK
              go_wp2_with fail
              refine (unhide HF).mono ?_
              rintro e w1 ⟨uf, rfl, b1, f1⟩
              have HFR := hide f1
              have HB1 := hide b1
              have HTR : Hid (TRow w1 (.slice wa K wc) (wantL L)) := hide (by
                have h1 := trow_of (own_grownS (S := fun _ => False) (unhide HOW) (grownS_of_below b1) (fun _ _ e => e))
                exact h1)
              obtain ⟨fa, fc, hfu, _⟩ := id f1
              rw [List.length_map, ← unhide HK] at hfu
              subst hfu
              clear b1 f1
              go_wp2
              go_loopw [13] (fun i wx => ∃ j : Nat, i = .int .i64 j ∧ j ≤ K ∧ Hid (Below w1.heap.size w1 wx)) (fun i _ => K - (intOf i).toNat)
              case atStart => exact ⟨0, rfl, Nat.zero_le _, hide (Below.refl _ _)⟩
              case round =>
                rename_i wx
                obtain ⟨j, rfl, hj, HBR⟩ := hrel
                by_cases hjl : j < K
                · obtain ⟨x, hx⟩ : ∃ x, (wantL L)[j]? = some x := ⟨_, List.getElem?_eq_getElem (by have := unhide HK; omega)⟩
                  obtain ⟨ad', cap', he, hq⟩ := (unhide HTR).below (unhide HBR)
                  rw [← unhide HK] at he
                  cases he
                  obtain ⟨g, o, rfl, _, c0⟩ := hq j x hx
                  obtain ⟨fa', fc', he, hq2⟩ := (unhide HFR).below (unhide HBR)
                  rw [List.length_map, ← unhide HK] at he
                  cases he
                  obtain ⟨g2, q2, rfl, _, d0, _⟩ := hq2 j (qt false x) (by rw [List.getElem?_map, hx]; rfl)
                  rw [ftx_qt] at d0
                  have hj1 : (j : Int) < (K : Int) := by omega
                  have hj0 : (0 : Int) ≤ (j : Int) := by omega
                  clear hq hq2 hx
                  go_wp2_with fail
                  go_quiet (fail)
                  go_wp2
                  go_roundw
                  case rel => exact ⟨j + 1, by go_num, by omega, hide ((unhide HBR).trans ((below_drew _ _).mono (unhide HBR).size))⟩
                  case measure => simp [intOf]; omega
                · go_wp2_with fail
                  refine (unhide HAW _ ((unhide HI).2.1.trans (((unhide HB1).mono (unhide HI).2.1.size).trans ((unhide HBR).mono (Nat.le_trans (unhide HI).2.1.size (unhide HB1).size))))).mono ?_
                  rintro e w2 ⟨rfl, b2⟩
                  have HB2 := hide b2
                  clear b2
                  go_wp2
                  go_ret
                  exact ⟨rfl, unhide HB2⟩
      · have hkg1 : ¬ (k : Int) < (M : Int) := by omega
        go_wp2
        go_loop [6, 10] (fun s i => ∃ (j : Nat) (T' : List UInt8), i = .int .i64 j ∧ j ≤ 1 ∧ s = .string (BA T') ∧ T'.length ≤ 30 * k + j ∧ Hid (if j = 0 then Set3 T' (wantL (L.take k)) else Set0 T' (wantL (L.take k)))) (fun _ i => 1 - (intOf i).toNat)
        case atStart => exact ⟨0, T, rfl, Nat.zero_le _, rfl, by omega, hide (unhide HI).1⟩
        case round =>
          clear hT
          obtain ⟨j, T, rfl, hj, rfl, hT, HS⟩ := hrel
          by_cases hjn : j < 1
          · obtain ⟨r, hr, hr3⟩ : ∃ r : Nat, ((k : Int) + (j : Int)).tmod 3 = r ∧ r < 3 := ⟨(k + j) % 3, by rw [Int.tmod_eq_emod_of_nonneg (by omega)]; omega, by omega⟩
            have hjn1 : (j : Int) < 1 := by omega
            have hs0 : T.length ≤ 1000 := by omega
            have HSB : Hid (∀ c : UInt8, c = 32 ∨ c = 9 ∨ c = 10 → Set0 (T ++ [c]) (wantL (L.take k))) := hide (fun c hc => by
              have := unhide HS
              split at this
              · exact set3_blank this hc
              · exact set3_blank (set0_of this) hc)
            match r, hr3 with
            | 0, _ =>
              go_wp2
              go_round
              case rel => exact ⟨j + 1, T ++ [32], by go_num, by omega, rfl, by simp; omega, hide (by rw [if_neg (by omega)]; exact unhide HSB 32 (by simp))⟩
              case measure => simp [intOf]; omega
            | 1, _ =>
              go_wp2
              go_round
              case rel => exact ⟨j + 1, T ++ [9], by go_num, by omega, rfl, by simp; omega, hide (by rw [if_neg (by omega)]; exact unhide HSB 9 (by simp))⟩
              case measure => simp [intOf]; omega
            | 2, _ =>
              go_wp2
              go_round
              case rel => exact ⟨j + 1, T ++ [10], by go_num, by omega, rfl, by simp; omega, hide (by rw [if_neg (by omega)]; exact unhide HSB 10 (by simp))⟩
              case measure => simp [intOf]; omega
          · have HS0 : Hid (Set0 T (wantL (L.take k))) := hide (by have := unhide HS; rwa [if_neg (by omega)] at this)
            have hjn1 : ¬ (j : Int) < 1 := by omega
            clear HS
            by_cases hkN : k < N
            · obtain ⟨x, hx⟩ : ∃ x, L[k]? = some x := ⟨_, List.getElem?_eq_getElem (by have := unhide HN; omega)⟩
              obtain ⟨gx, ox, rfl, hcx⟩ := unhide HP k x hx
              obtain ⟨xs, rfl⟩ : ∃ xs : ByteArray, x = xs.data.toList := ⟨BA x, rfl⟩
              have cx := hcx wr (unhide HI).2.1
              rw [BA_of] at cx
              have HX := hide hx
              have hne : ((k : Int) == (N : Int)) = false := by rw [beq_eq_false_iff_ne]; omega
              have hkN1 : (k : Int) < (N : Int) := by omega
              clear hcx hx
              by_cases hx20 : xs.size ≤ 20
              · go_wp2
                go_loop [11] (fun i => ∃ m : Nat, i = .int .i64 m ∧ m ≤ xs.size ∧ Hid (∀ c ∈ xs.data.toList.take m, hasB blk3 c = false)) (fun i => xs.size - (intOf i).toNat)
                case atStart => exact ⟨0, rfl, Nat.zero_le _, hide (fun c hc => by simp at hc)⟩
                case round =>
                  obtain ⟨m, rfl, hm, HC⟩ := hrel
                  by_cases hml : m < xs.size
                  · obtain ⟨c, hc⟩ : ∃ c : UInt8, xs[m]'hml = c := ⟨_, rfl⟩
                    have HWI : Hid (Calls Try.prog 18 #[.string ⟨#[32, 9, 10]⟩, .int .u8 (c.toNat : Int)] wr fun e w' => e = .returned (.bool (hasB blk3 c)) ∧ w' = wr) := hide (within_any blk3 c wr (by decide))
                    have HTK : Hid (xs.data.toList.take (m + 1) = xs.data.toList.take m ++ [c]) := hide (by rw [List.take_add_one, List.getElem?_eq_getElem (by rw [data_len]; exact hml), data_get xs m hml, hc]; rfl)
                    cases hb : hasB blk3 c with
                    | true =>
                      rw [hb] at HWI
                      clear hb
                      go_wp2_with fail
                      refine (unhide HWI).mono ?_
                      rintro e w1 ⟨rfl, hw1⟩
                      rw [show w1 = wr from hw1]
                      clear hw1
                      go_wp2_with fail
                      refine (unhide HAW _ (unhide HI).2.1).mono ?_
                      rintro e w2 ⟨rfl, b2⟩
                      have HB2 := hide b2
                      clear b2
                      go_wp2
                      go_ret
                      exact ⟨rfl, unhide HB2⟩
                    | false =>
                      rw [hb] at HWI
                      have HBF := hide hb
                      clear hb
                      go_wp2_with fail
                      refine (unhide HWI).mono ?_
                      rintro e w1 ⟨rfl, hw1⟩
                      rw [show w1 = wr from hw1]
                      clear hw1
                      go_wp2
                      go_round
                      case rel => exact ⟨m + 1, by go_num, by omega, hide (fun d hd => by
                        rw [unhide HTK] at hd
                        rcases List.mem_append.1 hd with hd | hd
                        · exact unhide HC d hd
                        · simp at hd
                          subst hd
                          exact unhide HBF)⟩
                      case measure => simp [intOf]; omega
                  · have HC2 : Hid (∀ c ∈ xs.data.toList, hasB blk3 c = false) := hide (by have := unhide HC; rwa [List.take_of_length_le (by rw [data_len]; omega)] at this)
                    have HW3 := hide (set0_word (unhide HS0) (unhide HC2))
                    have hml1 : ¬ (m : Int) < (xs.size : Int) := by omega
                    have hTl : T.length ≤ 1000 := by omega
                    cases hem : xs.data.toList.isEmpty with
                    | true =>
                      have he : xs.toList.isEmpty = true := by rw [Lib.toList_data]; exact hem
                      have HWW : Hid (wantL (L.take (k + 1)) = wantL (L.take k)) := hide (by rw [want_take (unhide HX), show wantL [xs.data.toList] = [] by unfold wantL; simp [hem], List.append_nil])
                      rw [show wantL [xs.data.toList] = [] by unfold wantL; simp [hem], List.append_nil] at HW3
                      clear hem
                      go_wp2
                      go_roundw
                      case rel => exact ⟨k + 1, T ++ xs.data.toList, by go_num, by omega, rfl, by rw [List.length_append, data_len]; omega, hide ⟨by rw [unhide HWW]; exact unhide HW3, (unhide HI).2.1, by rw [unhide HWW]; exact (unhide HI).2.2⟩⟩
                      case measure => simp [intOf]; omega
                    | false =>
                      have he : xs.toList.isEmpty = false := by rw [Lib.toList_data]; exact hem
                      have HWW : Hid (wantL (L.take (k + 1)) = wantL (L.take k) ++ [xs.data.toList]) := hide (by rw [want_take (unhide HX), show wantL [xs.data.toList] = [xs.data.toList] by unfold wantL; simp [hem]])
                      rw [show wantL [xs.data.toList] = [xs.data.toList] by unfold wantL; simp [hem], ← unhide HWW] at HW3
                      clear hem
                      obtain ⟨K, hK⟩ : ∃ K, K = (wantL (L.take k)).length := ⟨_, rfl⟩
                      have HK := hide hK
                      have hKl : K ≤ 10 := by have h1 := want_le (L.take k); have h2 := List.length_take_le k L; omega
                      have HOW : Hid (wr.ownsRow w.heap.size 9 1 u7 K ((wantL (L.take k)).map fun x => .string (BA x))) := hide (by rw [hK]; exact (unhide HI).2.2)
                      have hwz := (unhide HI).2.1.size
                      clear hK
                      go_wp2_with (first
                        | (at_builtin; refine wpList_append_own _ rfl _ _ 44 rfl w.heap.size 9 i9 (.string ⟨#[]⟩) 1 16 und_strs hi9 hz0 hz1 hz2 rfl (by decide) u7 K ((wantL (L.take k)).map fun x => .string (BA x)) rfl (World.ownsRow.alloc (unhide HOW) _) ⟨wr.heap.size, 0, none⟩ 1 1 [.string xs] rfl rfl one_cell one_str (by unfold maxLen; omega) (by omega) (by simp; omega) ?_)
                        | go_in)
                      intro v' w1 hown hgrow _
                      have HN2 := hide hown
                      have HGR : Hid (Below w.heap.size w w1) := hide ((unhide HI).2.1.trans (((Below.refl _ wr).alloc (Nat.le_refl _) _ |>.mono hwz).trans ((GrownS.of hgrow (fun _ e => e)).below (by simp; omega) (fun k e => (World.ownsRow.lt (unhide HOW) k e.symm).1))))
                      clear hown hgrow
                      go_wp2
                      go_roundw
                      case rel => exact ⟨k + 1, T ++ xs.data.toList, by go_num, by omega, rfl, by rw [List.length_append, data_len]; omega, hide ⟨unhide HW3, unhide HGR, by
                        have := unhide HN2
                        rw [unhide HK] at this
                        rw [unhide HWW, List.length_append, List.map_append]
                        exact this⟩⟩
                      case measure => simp [intOf]; omega
              · go_wp2_with fail
                refine (unhide HAW _ (unhide HI).2.1).mono ?_
                rintro e w2 ⟨rfl, b2⟩
                have HB2 := hide b2
                clear b2
                go_wp2
                go_ret
                exact ⟨rfl, unhide HB2⟩
            · obtain rfl : k = N := by omega
              have HTA : Hid (L.take k = L) := hide (List.take_of_length_le (by have := unhide HN; omega))
              rw [unhide HTA] at HS0 HI
              have HF := hide (fields_one wr ⟨T, false, true, false⟩ blk3 _ (set3_fields (set0_of (unhide HS0))) (by decide) (by simp only; omega))
              obtain ⟨K, hK⟩ : ∃ K, K = (wantL L).length := ⟨_, rfl⟩
              have HK := hide hK
              have hKl : K ≤ 10 := by have h1 := want_le L; have h2 := unhide HN; omega
              have HOW : Hid (wr.ownsRow w.heap.size 9 1 u7 K ((wantL L).map fun x => .string (BA x))) := hide (by rw [hK]; exact (unhide HI).2.2)
              obtain ⟨wa, wc, rfl⟩ := own_slice (unhide HOW)
              clear hK
              go_wp2_with fail
              refine (unhide HF).mono ?_
              rintro e w1 ⟨uf, rfl, b1, f1⟩
              have HFR := hide f1
              have HB1 := hide b1
              have HTR : Hid (TRow w1 (.slice wa K wc) (wantL L)) := hide (by
                have h1 := trow_of (own_grownS (S := fun _ => False) (unhide HOW) (grownS_of_below b1) (fun _ _ e => e))
                exact h1)
              obtain ⟨fa, fc, hfu, _⟩ := id f1
              rw [List.length_map, ← unhide HK] at hfu
              subst hfu
              clear b1 f1
              go_wp2
              go_loopw [13] (fun i wx => ∃ j : Nat, i = .int .i64 j ∧ j ≤ K ∧ Hid (Below w1.heap.size w1 wx)) (fun i _ => K - (intOf i).toNat)
              case atStart => exact ⟨0, rfl, Nat.zero_le _, hide (Below.refl _ _)⟩
              case round =>
                rename_i wx
                obtain ⟨j, rfl, hj, HBR⟩ := hrel
                by_cases hjl : j < K
                · obtain ⟨x, hx⟩ : ∃ x, (wantL L)[j]? = some x := ⟨_, List.getElem?_eq_getElem (by have := unhide HK; omega)⟩
                  obtain ⟨ad', cap', he, hq⟩ := (unhide HTR).below (unhide HBR)
                  rw [← unhide HK] at he
                  cases he
                  obtain ⟨g, o, rfl, _, c0⟩ := hq j x hx
                  obtain ⟨fa', fc', he, hq2⟩ := (unhide HFR).below (unhide HBR)
                  rw [List.length_map, ← unhide HK] at he
                  cases he
                  obtain ⟨g2, q2, rfl, _, d0, _⟩ := hq2 j (qt false x) (by rw [List.getElem?_map, hx]; rfl)
                  rw [ftx_qt] at d0
                  have hj1 : (j : Int) < (K : Int) := by omega
                  have hj0 : (0 : Int) ≤ (j : Int) := by omega
                  clear hq hq2 hx
                  go_wp2_with fail
                  go_quiet (fail)
                  go_wp2
                  go_roundw
                  case rel => exact ⟨j + 1, by go_num, by omega, hide ((unhide HBR).trans ((below_drew _ _).mono (unhide HBR).size))⟩
                  case measure => simp [intOf]; omega
                · go_wp2_with fail
                  refine (unhide HAW _ ((unhide HI).2.1.trans (((unhide HB1).mono (unhide HI).2.1.size).trans ((unhide HBR).mono (Nat.le_trans (unhide HI).2.1.size (unhide HB1).size))))).mono ?_
                  rintro e w2 ⟨rfl, b2⟩
                  have HB2 := hide b2
                  clear b2
                  go_wp2
                  go_ret
                  exact ⟨rfl, unhide HB2⟩
  · go_enter Try.func6, Try.ntmps6
    go_wp2_with fail
    refine (unhide HAW _ (Below.refl _ _)).mono ?_
    rintro e w2 ⟨rfl, b2⟩
    have HB2 := hide b2
    clear b2
    go_wp2
    go_ret
    exact ⟨rfl, unhide HB2⟩

end Go.Proofs.Ytpljphbaibncjaa

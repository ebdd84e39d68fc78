/- For every text of up to 1000 bytes without texts in place: the texts of its tokens, with a blank between each two (none behind an Io), have the same tokens again, and the chapter's examples hold; the call returns true, whatever the memory, and changes nothing. No conditions. -/
import Derived.Test.YtlmpdfeidjnmnaaDoorStart
import Derived.Test.YtlmpdfeidjnmnaaDoorAgain
namespace Go.Proofs.YtlmpdfeidjnmnaaDoor
open Go.ChangeShapes Go.WideShapes Go.ChangeAt Go.RowKit
open Go.ChangeMaps (open_string)

/-- A token that has a text in place. -/
def hereB (t : Tok) : Bool := (t.kind == 2) && (decide (t.text = BA [60, 60]) || decide (t.text = BA [60, 60, 45]))
theorem noHere_of {ts : List Tok} (h : ∀ t ∈ ts, hereB t = false) : NoHere (kts ts) := by
  intro u hu hk
  unfold kts at hu
  obtain ⟨t, ht, rfl⟩ := List.mem_map.1 hu
  have := h t ht
  unfold hereB at this
  have hk : t.kind = 2 := hk
  rw [hk] at this
  simp at this
  exact this
theorem joinT_up : ∀ l : List KT, (joinT l).length ≤ (l.map (fun t => t.2.length)).sum + l.length
  | [] => Nat.le_refl _
  | [t] => by simp [joinT]
  | t :: u :: ts => by
    have h2 := joinT_up (u :: ts)
    rw [joinT]
    split
    · rw [List.length_append]
      simp only [List.map_cons, List.sum_cons, List.length_cons] at h2 ⊢
      omega
    · rw [List.length_append, List.length_cons]
      simp only [List.map_cons, List.sum_cons, List.length_cons] at h2 ⊢
      omega
theorem join_step {t : KT} {l : List KT} {acc : List UInt8} {J : List UInt8} (h : acc ++ joinT (t :: l) = J) : (if t.1 ≠ 4 ∧ l ≠ [] then acc ++ t.2 ++ [32] else acc ++ t.2) ++ joinT l = J := by
  cases l with
  | nil =>
    rw [if_neg (fun h => h.2 rfl), ← h]
    simp [joinT]
  | cons u l =>
    rw [← h, joinT]
    by_cases h4 : t.1 = 4
    · rw [if_neg (fun h => h.1 h4), if_pos h4]
      simp
    · rw [if_pos ⟨h4, by simp⟩, if_neg h4]
      simp

set_option maxRecDepth 20000 in
set_option maxHeartbeats 8000000 in
theorem again_walk (s : ByteArray) (w : World) (he : Env w) :
    Calls Tryd.prog 6 #[.string s] w fun e w' => e = .returned (.bool true) ∧ Below w.heap.size w w' := by
  have HE := hide he
  clear he
  by_cases hb : 1000 < s.size
  · have hb' : (1000 : Int) < (s.size : Int) := by omega
    go_enter Tryd.func6, Tryd.ntmps6
    go_wp2_with fail
    refine (awake_any w (unhide HE)).mono ?_
    rintro e w1 ⟨rfl, b1⟩
    go_wp2
    go_ret
    exact ⟨rfl, b1⟩
  have hb' : ¬ (1000 : Int) < (s.size : Int) := by omega
  have HL := hide (lex_env s w (by omega) (unhide HE))
  have hsl : s.data.toList.length ≤ 1000 := by rw [data_len]; omega
  have HAG := hide (lexL_again s.data.toList hsl)
  have hcnt := stands_len2 _ _ (lexL_stands s.data.toList (by omega)).1 (Nat.zero_le _)
  unfold pts at hcnt
  rw [List.length_map] at hcnt
  obtain ⟨ts, hts⟩ : ∃ x, x = (lexL s.data.toList).1 := ⟨_, rfl⟩
  obtain ⟨bl, hbl⟩ : ∃ x, x = (lexL s.data.toList).2.1 := ⟨_, rfl⟩
  obtain ⟨fl, hfl⟩ : ∃ x, x = (lexL s.data.toList).2.2 := ⟨_, rfl⟩
  rw [← hts, ← hbl, ← hfl] at HL
  rw [← hts, ← hfl] at HAG
  rw [← hts] at hcnt
  have hjl : (joinT (ktl ts)).length ≤ 2000 := by
    have h1 := joinT_up (ktl ts)
    have h2 := stands_sum _ _ (lexL_stands s.data.toList (by omega)).1 (Nat.zero_le _)
    rw [← hts] at h2
    have e1 : (ktl ts).map (fun t => t.2.length) = (pts ts).map (fun t => t.2.size) := by
      unfold ktl pts
      rw [List.map_map, List.map_map]
      apply List.map_congr_left
      intro t _
      exact data_len t.text
    have e2 : (ktl ts).length = ts.length := by unfold ktl; rw [List.length_map]
    rw [e1, e2] at h1
    omega
  clear hts hbl hfl
  go_enter Tryd.func6, Tryd.ntmps6
  go_wp2_with fail
  refine (unhide HL).mono ?_
  rintro e w1 ⟨v, rfl, b1, r1⟩
  obtain ⟨ad, cap, rfl, hsh⟩ := r1.shape
  obtain ⟨n, hn⟩ : ∃ n, n = ts.length := ⟨_, rfl⟩
  rw [← hn]
  have HSH := hide hsh
  have HN := hide hn
  have HB1 := hide b1
  have HE1 := hide ((unhide HE).below b1 (Nat.le_refl _))
  have hnle : n ≤ 1000 := by omega
  have HAW := hide (awake_any w1 (unhide HE1))
  obtain ⟨J, hJ⟩ : ∃ J, J = joinT (ktl ts) := ⟨_, rfl⟩
  have HJ := hide hJ
  rw [← hJ] at hjl
  have HJL := hide hjl
  clear hsh hn b1 r1 HL hcnt hsl hJ hjl
  go_wp2_with fail
  go_loopw [6, 7] (fun tx i wr => ∃ (k : Nat) (acc : List UInt8), k ≤ n ∧ i = .int .i64 k ∧ tx = .string (BA acc) ∧ wr = w1 ∧ Hid ((0 < k → fl = 0) ∧ (∀ t ∈ ts.take k, hereB t = false) ∧ acc ++ joinT (ktl (ts.drop k)) = J)) (fun _ i _ => n - (intOf i).toNat)
  case atStart => exact ⟨0, [], by omega, rfl, rfl, rfl, hide ⟨fun h => by omega, fun t ht => by simp at ht, by rw [unhide HJ]; rfl⟩⟩
  case round =>
    obtain ⟨k, acc, hk, rfl, rfl, rfl, HI⟩ := hrel
    by_cases hlt : k < n
    · have hlt' : (k : Int) < (n : Int) := by omega
      have hk0 : (0 : Int) ≤ (k : Int) := by omega
      have hkt : k < ts.length := by have := unhide HN; omega
      obtain ⟨t, ht⟩ : ∃ t, ts[k]? = some t := ⟨_, List.getElem?_eq_getElem hkt⟩
      obtain ⟨g, rfl, hgl, hgc⟩ := unhide HSH k t ht
      have q0 : wr.cell? ⟨g, k * 5, none⟩ = some (.int .i64 t.kind) := by rw [show k * 5 = 5 * k + 0 by omega]; exact hgc 0 _ rfl (by decide)
      have q1 : wr.cell? ⟨g, k * 5 + 1, none⟩ = some (.string t.text) := by rw [show k * 5 + 1 = 5 * k + 1 by omega]; exact hgc 1 _ rfl (by decide)
      clear hgc hgl
      by_cases hf : fl = 0
      · subst hf
        have hdr : ts.drop k = t :: ts.drop (k + 1) := by
          rw [List.drop_eq_getElem_cons hkt]
          rw [List.getElem?_eq_getElem hkt] at ht
          injection ht with ht
          rw [ht]
        have hI := (unhide HI).2.2
        rw [hdr] at hI
        have hI : acc ++ joinT ((t.kind, t.text.data.toList) :: ktl (ts.drop (k + 1))) = J := hI
        have hstep := join_step hI
        obtain ⟨m1, hm1⟩ : ∃ m, m = n - 1 := ⟨_, rfl⟩
        have hwm : IntKind.i64.wrap ((n : Int) - 1) = (m1 : Int) := by rw [IntKind.wrap_i64]; omega
        have hemp : ktl (ts.drop (k + 1)) ≠ [] ↔ k < m1 := by
          unfold ktl
          rw [ne_eq, List.map_eq_nil_iff, List.drop_eq_nil_iff]
          have := unhide HN
          omega
        have hal : acc.length + t.text.size ≤ 2000 := by
          have h1 := congrArg List.length hI
          have h2 := unhide HJL
          rw [← h1, List.length_append] at h2
          have h3 : t.text.size ≤ (joinT ((t.kind, t.text.data.toList) :: ktl (ts.drop (k + 1)))).length := by
            cases ktl (ts.drop (k + 1)) with
            | nil => simp [joinT]
            | cons u l =>
              rw [joinT]
              split <;> (rw [List.length_append, data_len]; omega)
          omega
        have HTK : Hid (hereB t = false → ∀ u ∈ ts.take (k + 1), hereB u = false) := hide (by
          intro h u hu
          rw [List.take_add_one, ht] at hu
          rcases List.mem_append.1 hu with hu | hu
          · exact (unhide HI).2.1 u hu
          · simp at hu; rw [hu]; exact h)
        have HHB : Hid (hereB t = ((t.kind == 2) && (decide (t.text = BA [60, 60]) || decide (t.text = BA [60, 60, 45])))) := hide rfl
        obtain ⟨K, hK⟩ : ∃ K, K = t.kind := ⟨_, rfl⟩
        obtain ⟨tx, htx⟩ : ∃ tx, tx = t.text := ⟨_, rfl⟩
        rw [← hK, ← htx] at hstep HHB
        rw [← hK] at q0
        rw [← htx] at q1 hal
        have HST := hide hstep
        have HEM := hide hemp
        have hacs : (BA acc).size ≤ 2000 := by rw [BA_size]; omega
        have hacl : acc.length ≤ 2000 := by omega
        have htxs : tx.size ≤ 2000 := by omega
        have HS1 : Hid (BA acc ++ tx ++ ⟨#[32]⟩ = BA (acc ++ tx.data.toList ++ [32])) := hide (by
          apply ByteArray.ext
          apply Array.ext'
          simp [BA])
        have HS2 : Hid (BA acc ++ tx = BA (acc ++ tx.data.toList)) := hide (by
          apply ByteArray.ext
          apply Array.ext'
          simp [BA])
        clear hK htx hstep hemp hI hdr hm1 hal ht hkt
        by_cases hh1 : K = 2 ∧ tx = ⟨#[60, 60]⟩
        · obtain ⟨rfl, rfl⟩ := hh1
          go_wp2_with fail
          refine (unhide HAW).mono ?_
          rintro e w5 ⟨rfl, b5⟩
          have B5 := hide b5
          clear b5
          go_wp2
          go_ret
          exact ⟨rfl, (unhide HB1).trans ((unhide B5).mono (unhide HB1).size)⟩
        by_cases hh2 : K = 2 ∧ tx = ⟨#[60, 60, 45]⟩
        · obtain ⟨rfl, rfl⟩ := hh2
          go_wp2_with fail
          refine (unhide HAW).mono ?_
          rintro e w5 ⟨rfl, b5⟩
          have B5 := hide b5
          clear b5
          go_wp2
          go_ret
          exact ⟨rfl, (unhide HB1).trans ((unhide B5).mono (unhide HB1).size)⟩
        have HNT : Hid (∀ u ∈ ts.take (k + 1), hereB u = false) := hide (unhide HTK (by
          rw [unhide HHB]
          by_cases h2 : K = 2
          · rw [Bool.and_eq_false_iff]
            right
            rw [Bool.or_eq_false_iff]
            exact ⟨decide_eq_false (fun e => hh1 ⟨h2, e⟩), decide_eq_false (fun e => hh2 ⟨h2, e⟩)⟩
          · rw [Bool.and_eq_false_iff]
            left
            exact beq_eq_false_iff_ne.2 h2))
        have HA : Hid (K ≠ 4 → k < m1 → (acc ++ tx.data.toList ++ [32]) ++ joinT (ktl (ts.drop (k + 1))) = J) := hide (fun h4 hl => by
          have := unhide HST
          rwa [if_pos ⟨h4, (unhide HEM).2 hl⟩] at this)
        have HBb : Hid (K = 4 ∨ ¬ k < m1 → (acc ++ tx.data.toList) ++ joinT (ktl (ts.drop (k + 1))) = J) := hide (fun h => by
          have := unhide HST
          rwa [if_neg (fun hx => h.elim (fun h4 => hx.1 h4) (fun hl => hl ((unhide HEM).1 hx.2)))] at this)
        by_cases hK2 : K = 2
        · subst hK2
          have e1 : (tx.toList == [60, 60]) = false := by
            rw [beq_eq_false_iff_ne, ByteArray.toList_eq]
            intro e
            exact hh1 ⟨rfl, by rw [← BA_of tx, e]; rfl⟩
          have e2 : (tx.toList == [60, 60, 45]) = false := by
            rw [beq_eq_false_iff_ne, ByteArray.toList_eq]
            intro e
            exact hh2 ⟨rfl, by rw [← BA_of tx, e]; rfl⟩
          have HA := hide (unhide HA (by decide))
          clear hh1 hh2 HHB HTK HST HEM
          by_cases hl : k < m1
          · have hl' : (k : Int) < (m1 : Int) := by omega
            go_wp2
            go_roundw
            case rel =>
              refine ⟨k + 1, acc ++ tx.data.toList ++ [32], by omega, by go_num, ?_, by trivial, hide ⟨fun _ => by trivial, unhide HNT, unhide HA hl⟩⟩
              rw [unhide HS1]
            case measure => simp [intOf]; omega
          · have hl' : ¬ (k : Int) < (m1 : Int) := by omega
            go_wp2
            go_roundw
            case rel =>
              refine ⟨k + 1, acc ++ tx.data.toList, by omega, by go_num, ?_, by trivial, hide ⟨fun _ => by trivial, unhide HNT, unhide HBb (.inr hl)⟩⟩
              rw [unhide HS2]
            case measure => simp [intOf]; omega
        · by_cases hK4 : K = 4
          · subst hK4
            clear hh1 hh2 HHB HTK HST HEM
            go_wp2
            go_roundw
            case rel =>
              refine ⟨k + 1, acc ++ tx.data.toList, by omega, by go_num, ?_, by trivial, hide ⟨fun _ => by trivial, unhide HNT, unhide HBb (.inl rfl)⟩⟩
              rw [unhide HS2]
            case measure => simp [intOf]; omega
          · have e1 : (K == 2) = false := beq_eq_false_iff_ne.2 hK2
            have e2 : (K == 4) = false := beq_eq_false_iff_ne.2 hK4
            have e3 : (K != 4) = true := by simp [bne, e2]
            have HA := hide (unhide HA hK4)
            clear hh1 hh2 HHB HTK HST HEM hK2 hK4
            by_cases hl : k < m1
            · have hl' : (k : Int) < (m1 : Int) := by omega
              go_wp2
              go_roundw
              case rel =>
                refine ⟨k + 1, acc ++ tx.data.toList ++ [32], by omega, by go_num, ?_, by trivial, hide ⟨fun _ => by trivial, unhide HNT, unhide HA hl⟩⟩
                rw [unhide HS1]
              case measure => simp [intOf]; omega
            · have hl' : ¬ (k : Int) < (m1 : Int) := by omega
              go_wp2
              go_roundw
              case rel =>
                refine ⟨k + 1, acc ++ tx.data.toList, by omega, by go_num, ?_, by trivial, hide ⟨fun _ => by trivial, unhide HNT, unhide HBb (.inr hl)⟩⟩
                rw [unhide HS2]
              case measure => simp [intOf]; omega
      · have hf' : (fl == 0) = false := by simpa using hf
        have hf2 : (fl != 0) = true := by simp [bne, hf']
        clear hf
        go_wp2_with fail
        refine (unhide HAW).mono ?_
        rintro e w5 ⟨rfl, b5⟩
        have B5 := hide b5
        clear b5
        go_wp2
        go_ret
        exact ⟨rfl, (unhide HB1).trans ((unhide B5).mono (unhide HB1).size)⟩
    · have hlt' : ¬ (k : Int) < (n : Int) := by omega
      obtain rfl : k = n := by omega
      have hfin : (lexL acc).2.2 = 0 ∧ kts (lexL acc).1 = kts ts ∧ acc.length ≤ 2000 := by
        obtain ⟨i1, i2, i3⟩ := unhide HI
        have hlen := unhide HN
        rw [List.drop_eq_nil_of_le (by omega)] at i3
        have i3 : acc ++ [] = J := i3
        rw [List.append_nil] at i3
        by_cases hz : k = 0
        · have hts : ts = [] := List.eq_nil_of_length_eq_zero (by omega)
          have hacc : acc = [] := by rw [i3, unhide HJ, hts]; rfl
          rw [hacc, hts]
          exact ⟨rfl, rfl, by decide⟩
        · obtain ⟨_, h2, h3, h4⟩ := unhide HAG (i1 (by omega)) (noHere_of (by rw [List.take_of_length_le (by omega)] at i2; exact i2))
          rw [← unhide HJ, ← i3] at h2 h3 h4
          exact ⟨h3, h4, h2⟩
      obtain ⟨f1, f2, f3⟩ := hfin
      have hlx := lex_env (BA acc) wr (by rw [BA_size]; omega) (unhide HE1)
      rw [BA_list, f1] at hlx
      obtain ⟨ms, hms⟩ : ∃ x, x = (lexL acc).1 := ⟨_, rfl⟩
      rw [← hms] at hlx f2
      have HLX := hide hlx
      have HKT := hide f2
      have hml : ms.length = k := by
        have := congrArg List.length f2
        unfold kts at this
        rw [List.length_map, List.length_map] at this
        rw [this]
        exact (unhide HN).symm
      have HML := hide hml
      clear hlx f1 f2 f3 hms hml
      obtain ⟨wA, hwA⟩ : ∃ x, x = wr := ⟨_, rfl⟩
      subst hwA
      go_wp2_with fail
      refine (unhide HLX).mono ?_
      rintro e w2 ⟨v2, rfl, b2, r2⟩
      obtain ⟨ad2, cap2, rfl, hs2⟩ := r2.shape
      rw [unhide HML]
      have HS2 := hide hs2
      have B2 := hide b2
      have HE2 := hide ((unhide HE1).below b2 (Nat.le_refl _))
      clear hs2 b2 r2 HLX
      go_wp2_with fail
      go_loopw [11] (fun i wr => ∃ j : Nat, j ≤ k ∧ i = .int .i64 j ∧ Hid (Below w2.heap.size w2 wr)) (fun i _ => k - (intOf i).toNat)
      case atStart => exact ⟨0, by omega, rfl, hide (Below.refl _ _)⟩
      case round =>
        obtain ⟨j, hj, rfl, HB⟩ := hrel
        by_cases hjl : j < k
        · have hjt : j < ts.length := by have := unhide HN; omega
          have hjm : j < ms.length := by have := unhide HML; omega
          obtain ⟨t, ht⟩ : ∃ t, ts[j]? = some t := ⟨_, List.getElem?_eq_getElem hjt⟩
          obtain ⟨u, hu⟩ : ∃ u, ms[j]? = some u := ⟨_, List.getElem?_eq_getElem hjm⟩
          have hku : u.kind = t.kind ∧ u.text = t.text := by
            have := congrArg (fun l : List (Int × ByteArray) => l[j]?) (unhide HKT)
            unfold kts at this
            simp only [List.getElem?_map, ht, hu, Option.map_some, Option.some.injEq, Prod.mk.injEq] at this
            exact this
          obtain ⟨g1, rfl, hg1, hc1⟩ := unhide HSH j t ht
          obtain ⟨g2, rfl, hg2, hc2⟩ := unhide HS2 j u hu
          have hw1 : ∀ i, wr.cell? ⟨g1, i, none⟩ = wA.cell? ⟨g1, i, none⟩ := fun i => by
            rw [World.cell?_of_block ((unhide HB).block g1 (Nat.lt_of_lt_of_le hg1 (unhide B2).size))]
            exact World.cell?_of_block ((unhide B2).block g1 hg1)
          have hw2 : ∀ i, wr.cell? ⟨g2, i, none⟩ = w2.cell? ⟨g2, i, none⟩ := fun i => World.cell?_of_block ((unhide HB).block g2 hg2)
          have p0 : wr.cell? ⟨g1, j * 5, none⟩ = some (.int .i64 t.kind) := by rw [hw1, show j * 5 = 5 * j + 0 by omega]; exact hc1 0 _ rfl (by decide)
          have p1 : wr.cell? ⟨g1, j * 5 + 1, none⟩ = some (.string t.text) := by rw [hw1, show j * 5 + 1 = 5 * j + 1 by omega]; exact hc1 1 _ rfl (by decide)
          have q0 : wr.cell? ⟨g2, j * 5, none⟩ = some (.int .i64 t.kind) := by rw [hw2, show j * 5 = 5 * j + 0 by omega, ← hku.1]; exact hc2 0 _ rfl (by decide)
          have q1 : wr.cell? ⟨g2, j * 5 + 1, none⟩ = some (.string t.text) := by rw [hw2, show j * 5 + 1 = 5 * j + 1 by omega, ← hku.2]; exact hc2 1 _ rfl (by decide)
          have hjl' : (j : Int) < (k : Int) := by omega
          have hj0 : (0 : Int) ≤ (j : Int) := by omega
          have e1 : (t.kind == t.kind) = true := beq_self_eq_true _
          have e2 : (t.text.toList == t.text.toList) = true := beq_self_eq_true _
          clear hjt hjm ht hu hku hg1 hg2 hc1 hc2 hw1 hw2
          go_wp2_with fail
          go_quiet (fail)
          go_wp2
          go_roundw
          case rel => exact ⟨j + 1, by omega, by go_num, hide ((unhide HB).trans ((below_drew _ _).mono (unhide HB).size))⟩
          case measure => simp [intOf]; omega
        · have hjl' : ¬ (j : Int) < (k : Int) := by omega
          have HEx := hide ((unhide HE2).below (unhide HB) (Nat.le_refl _))
          have HBx : Hid (Below w.heap.size w wr) := hide ((unhide HB1).trans (((unhide B2).mono (unhide HB1).size).trans ((unhide HB).mono (Nat.le_trans (unhide HB1).size (unhide B2).size))))
          go_wp2_with fail
          refine (awake_any wr (unhide HEx)).mono ?_
          rintro e w5 ⟨rfl, b5⟩
          have B5 := hide b5
          clear b5
          go_wp2
          go_ret
          exact ⟨rfl, (unhide HBx).trans ((unhide B5).mono (unhide HBx).size)⟩

set_option maxRecDepth 100000 in
theorem lexAgain_lifted (os : Os) (started : os.Started) (H : Type) (enc : TypeId × Value → H) :
    ReturnsInHanded {} Tryd.checked os 6 .any (fun w args => (Rows.lexAgainSpec.pre enc Tryd.prog Tryd.f6 [] false w args ∧ laidMetH Tryd.prog seatLaid w) ∧ sizedMet enc Tryd.prog Tryd.f6 (OpenSpec.ofChange Rows.lexAgainSpec) false w args)
      (Rows.lexAgainSpec.post enc Tryd.prog Tryd.f6 false true false false) := by
  refine law_lifted (C := Tryd.checked) (L := seatLaid) (tb := 4) own started (by kernel_rfl) Tryd.func6 laidOut rfl (read_of (by kernel_rfl)) (by kernel_rfl) Tryd.underlying4 ?_
    (ChangeSpec.witness_shaped (enc := enc) (C := Tryd.checked) (os := os) (X := fun w _ => laidMetH Tryd.prog seatLaid w) false (World.laidAll Tryd.prog os seatLaid) #[.string ⟨#[]⟩] 8 (World.laidAll_os _ _ _)
      (World.shaped_of_ZipB (by kernel_rfl) (by kernel_rfl)) (by kernel_rfl) (by kernel_rfl) (by kernel_rfl) (door_met os _)) ?_
  · intro ds hds
    rw [show Tryd.f6.params.toList.length = 1 from by kernel_rfl] at hds
    match ds, hds with
    | [d0], _ => rfl
  · intro W base args ds ps hval0 hA0 hL hsh
    have hval : ∀ (j : Nat) t v, Tryd.f6.params[j]? = some t → args[j]? = some v → Value.okWide Tryd.prog W .any base t v := hval0
    have hA : DataW.TrodAll enc Tryd.prog W 0 (fun _ => true) true Tryd.f6.params.toList args.toList ds ps := hA0
    rw [Tryd.params6] at hA hval
    obtain ⟨v0, d0, rfl, rfl, h0⟩ := trodAll_one hA
    obtain ⟨s, rfl, rfl, rfl, _⟩ := open_string Tryd.underlying9 (hval 0 9 v0 rfl rfl) h0
    exact again_walk s W (env_of hL hsh)

theorem lexAgain_row : Rows.LexAgainSaid :=
  OpenClaim.holds_of_wide 6 Tryd.f6 rfl rfl rfl rfl rfl rfl rfl ⟨rfl, rfl, rfl, rfl, rfl⟩ rfl rfl rfl rfl rfl (by kernel_rfl) Tryd.func6 (by kernel_rfl)
    (of_decide_eq_true (by kernel_rfl)) (by unfold Func.isWrapper; first | (rw [if_pos (by decide +kernel)]; kernel_rfl) | (rw [if_neg (by decide +kernel)]; exact ⟨rfl, rfl⟩))
    (fun os started H enc _ => lexAgain_lifted os started H enc)

theorem lexAgain_holds : Rows.LexAgainCardSaid :=
  Claim7.holds_tied_plain_at .later [] [.data, .data, .pinned] true (true, "888efd2cc860f4bc7ce121053343fbef125507d58a36e072d99fc54c961cf5f0") false
    lexAgain_row (fun _ h => by cases h) (by kernel_rfl) (fun _ h => by cases h) lexAgain_row_tie rfl ⟨rfl, rfl⟩ (by kernel_rfl) rfl
    (fun f fn hf hfn => by
      obtain rfl : f = 6 := Option.some.inj ((show Tryd.prog.funcNamed "conch/conchlaw04.LexAgain" = some 6 by kernel_rfl).symm.trans hf) |>.symm
      obtain rfl : fn = Tryd.f6 := (Option.some.inj (Tryd.func6.symm.trans hfn)).symm
      exact ⟨by kernel_rfl, fun j t ht => by
        rw [Tryd.params6] at ht
        have hm : t ∈ [9] := by simpa using Array.mem_of_getElem? ht
        have hall : ([9].all fun u => !Tryd.prog.wantsStandIn u) = true := by kernel_rfl
        exact (show Tryd.prog.wantsStandIn t = false by simpa using List.all_eq_true.1 hall t hm)⟩)
    (by kernel_rfl)
#print axioms lexAgain_holds

end Go.Proofs.YtlmpdfeidjnmnaaDoor

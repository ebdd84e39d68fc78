/- For every two texts: with an error, and without, the tokens of the first one's lines are those of both, as far as those lines go (of texts without backslashes, quotes, brackets, braces, less-than signs and back quotes, of up to 500 bytes each), and the chapter's examples hold; the call returns true, whatever the memory, and changes nothing. No conditions. -/
import Derived.Test.YtlmpdfeidjnmnaaDoorStart
import Derived.Test.YtlmpdfeidjnmnaaDoorCut
namespace Go.Proofs.YtlmpdfeidjnmnaaDoor
open Go.ChangeShapes Go.WideShapes Go.ChangeAt Go.RowKit
open Go.ChangeMaps (open_string)

set_option maxRecDepth 20000 in
set_option maxHeartbeats 8000000 in
theorem cuts_end (a b : ByteArray) (w : World) (he : Env w) (ha : a.size ≤ 500) (hb : b.size ≤ 500) (hp : Pl a.data.toList) :
    Calls Tryd.prog 8 #[.string a, .string b] w fun e w' => e = .returned (.bool true) ∧ Below w.heap.size w w' := by
  have HE := hide he
  have e1 : (a ++ ⟨#[10]⟩ : ByteArray).data.toList = a.data.toList ++ [10] := by simp
  have e2 : ((a ++ ⟨#[10]⟩ : ByteArray) ++ b).data.toList = a.data.toList ++ 10 :: b.data.toList := by simp
  obtain ⟨A, hA⟩ : ∃ A, A = a ++ (⟨#[10]⟩ : ByteArray) := ⟨_, rfl⟩
  obtain ⟨C, hC⟩ : ∃ C, C = (a ++ (⟨#[10]⟩ : ByteArray)) ++ b := ⟨_, rfl⟩
  have hAs : A.size ≤ 100000 := by rw [hA, ByteArray.size_append]; show a.size + 1 ≤ _; omega
  have hCs : C.size ≤ 100000 := by rw [hC, ByteArray.size_append, ByteArray.size_append]; show a.size + 1 + b.size ≤ _; omega
  obtain ⟨hc0, hcl, hct⟩ := lexL_cut a.data.toList b.data.toList (by rw [data_len]; exact ha) (by rw [data_len]; exact hb) hp
  rw [← e1, ← hA] at hc0 hcl hct
  rw [← e2, ← hC] at hcl hct
  have HL1 := hide (fun W (hW : Env W) => lex_env A W hAs hW)
  have HL2 := hide (fun W (hW : Env W) => lex_env C W hCs hW)
  obtain ⟨ts, hts⟩ : ∃ x, x = (lexL A.data.toList).1 := ⟨_, rfl⟩
  obtain ⟨us, hus⟩ : ∃ x, x = (lexL C.data.toList).1 := ⟨_, rfl⟩
  obtain ⟨bl, hbl⟩ : ∃ x, x = (lexL A.data.toList).2.1 := ⟨_, rfl⟩
  obtain ⟨bl2, hbl2⟩ : ∃ x, x = (lexL C.data.toList).2.1 := ⟨_, rfl⟩
  obtain ⟨fl2, hfl2⟩ : ∃ x, x = (lexL C.data.toList).2.2 := ⟨_, rfl⟩
  rw [← hts, ← hbl, hc0] at HL1
  rw [← hus, ← hbl2, ← hfl2] at HL2
  rw [← hts, ← hus] at hcl hct
  have HSA := hide (show a.size ≤ 500 from ha)
  have HPL := hide hp
  have HCT := hide hct
  have hus2 : us.length ≤ 100000 := by
    have := (lexL_stands C.data.toList (by rw [hC, e2, List.length_append, List.length_cons, data_len, data_len]; omega)).1
    rw [← hus] at this
    have := stands_len2 _ _ this (Nat.zero_le _)
    unfold pts at this
    rw [List.length_map, data_len] at this
    omega
  have ha' : ¬ (500 : Int) < (a.size : Int) := by omega
  have hb' : ¬ (500 : Int) < (b.size : Int) := by omega
  clear he e1 e2 hc0 hct hts hus hbl hbl2 hfl2 hp
  go_enter Tryd.func8, Tryd.ntmps8
  go_wp2_with fail
  go_loopw [5] (fun i wr => ∃ k : Nat, k ≤ a.size ∧ i = .int .i64 k ∧ wr = w) (fun i _ => a.size - (intOf i).toNat)
  case atStart => exact ⟨0, by omega, rfl, rfl⟩
  case round =>
    obtain ⟨k, hk, rfl, rfl⟩ := hrel
    by_cases hlt : k < a.size
    · have hm : a[k] ∈ a.data.toList := by
        rw [← data_get a k hlt]
        exact List.getElem_mem _
      obtain ⟨h1, h2, h3, h4, h5, h6, h7⟩ := plainB_of (unhide HPL a[k] hm)
      have n1 : ¬ ((a[k].toNat : Int) = 92) := fun e => h1 (UInt8.toNat_inj.1 (show a[k].toNat = 92 by omega))
      have n2 : ¬ ((a[k].toNat : Int) = 39) := fun e => h2 (UInt8.toNat_inj.1 (show a[k].toNat = 39 by omega))
      have n3 : ¬ ((a[k].toNat : Int) = 34) := fun e => h3 (UInt8.toNat_inj.1 (show a[k].toNat = 34 by omega))
      have n4 : ¬ ((a[k].toNat : Int) = 40) := fun e => h4 (UInt8.toNat_inj.1 (show a[k].toNat = 40 by omega))
      have n5 : ¬ ((a[k].toNat : Int) = 123) := fun e => h5 (UInt8.toNat_inj.1 (show a[k].toNat = 123 by omega))
      have n6 : ¬ ((a[k].toNat : Int) = 60) := fun e => h6 (UInt8.toNat_inj.1 (show a[k].toNat = 60 by omega))
      have n7 : ¬ ((a[k].toNat : Int) = 96) := fun e => h7 (UInt8.toNat_inj.1 (show a[k].toNat = 96 by omega))
      have hlt' : (k : Int) < (a.size : Int) := by omega
      have hk0 : (0 : Int) ≤ (k : Int) := by omega
      clear h1 h2 h3 h4 h5 h6 h7 hm
      go_wp2
      go_roundw
      case rel => exact ⟨k + 1, by omega, by go_num, by trivial⟩
      case measure => simp [intOf]; omega
    · have hlt' : ¬ (k : Int) < (a.size : Int) := by omega
      go_wp2_with fail
      rw [← hA]
      refine (unhide HL1 wr (unhide HE)).mono ?_
      rintro e w1 ⟨v1, rfl, b1, r1⟩
      have HE1 := hide ((unhide HE).below b1 (Nat.le_refl _))
      have B1 := hide b1
      have R1 := hide r1
      clear b1 r1
      go_wp2_with fail
      rw [← hC]
      refine (unhide HL2 w1 (unhide HE1)).mono ?_
      rintro e w2 ⟨v2, rfl, b2, r2⟩
      have r1 := (unhide R1).below b2 (Nat.le_refl _)
      obtain ⟨ad1, cap1, rfl, hs1⟩ := r1.shape
      obtain ⟨ad2, cap2, rfl, hs2⟩ := r2.shape
      obtain ⟨n1, hn1⟩ : ∃ x, x = ts.length := ⟨_, rfl⟩
      obtain ⟨n2, hn2⟩ : ∃ x, x = us.length := ⟨_, rfl⟩
      rw [← hn1, ← hn2]
      have HN1 := hide hn1
      have HN2 := hide hn2
      have hnn : n1 ≤ n2 ∧ n2 ≤ 100000 := by omega
      have hgt : ¬ (n2 : Int) < (n1 : Int) := by omega
      have hgt2 : decide (n2 < n1) = false := decide_eq_false (by omega)
      have HS1 := hide hs1
      have HS2 := hide hs2
      have HE2 := hide ((unhide HE1).below b2 (Nat.le_refl _))
      have HB2 : Hid (Below wr.heap.size wr w2) := hide ((unhide B1).trans (b2.mono (unhide B1).size))
      clear hn1 hn2 hs1 hs2 b2 r2 r1 R1 B1
      obtain ⟨wA, hwA⟩ : ∃ x, x = wr := ⟨_, rfl⟩
      subst hwA
      go_wp2_with fail
      go_loopw [12] (fun i wr => ∃ k : Nat, k ≤ n1 ∧ i = .int .i64 k ∧ Hid (Below w2.heap.size w2 wr)) (fun i _ => n1 - (intOf i).toNat)
      case atStart => exact ⟨0, by omega, rfl, hide (Below.refl _ _)⟩
      case round =>
        obtain ⟨k, hk, rfl, HB⟩ := hrel
        by_cases hlt : k < n1
        · have hkt : k < ts.length := by have := unhide HN1; omega
          have hku : k < us.length := by have := unhide HN2; omega
          obtain ⟨t, ht⟩ : ∃ t, ts[k]? = some t := ⟨_, List.getElem?_eq_getElem hkt⟩
          have hu : us[k]? = some t := by
            have := congrArg (fun l : List Tok => l[k]?) (unhide HCT)
            simp only [List.getElem?_take, if_pos hkt] at this
            rw [this]; exact ht
          obtain ⟨g1, rfl, hg1, hc1⟩ := unhide HS1 k t ht
          obtain ⟨g2, rfl, hg2, hc2⟩ := unhide HS2 k t hu
          have hw1 : ∀ j, wr.cell? ⟨g1, j, none⟩ = w2.cell? ⟨g1, j, none⟩ := fun j => World.cell?_of_block ((unhide HB).block g1 hg1)
          have hw2 : ∀ j, wr.cell? ⟨g2, j, none⟩ = w2.cell? ⟨g2, j, none⟩ := fun j => World.cell?_of_block ((unhide HB).block g2 hg2)
          have p0 : wr.cell? ⟨g1, k * 5, none⟩ = some (.int .i64 t.kind) := by rw [hw1, show k * 5 = 5 * k + 0 by omega]; exact hc1 0 _ rfl (by decide)
          have p1 : wr.cell? ⟨g1, k * 5 + 1, none⟩ = some (.string t.text) := by rw [hw1, show k * 5 + 1 = 5 * k + 1 by omega]; exact hc1 1 _ rfl (by decide)
          have p2 : wr.cell? ⟨g1, k * 5 + 2, none⟩ = some (.int .i64 t.pos) := by rw [hw1, show k * 5 + 2 = 5 * k + 2 by omega]; exact hc1 2 _ rfl (by decide)
          have p3 : wr.cell? ⟨g1, k * 5 + 3, none⟩ = some (.string t.body) := by rw [hw1, show k * 5 + 3 = 5 * k + 3 by omega]; exact hc1 3 _ rfl (by decide)
          have p4 : wr.cell? ⟨g1, k * 5 + 4, none⟩ = some (.bool t.raw) := by rw [hw1, show k * 5 + 4 = 5 * k + 4 by omega]; exact hc1 4 _ rfl (by decide)
          have q0 : wr.cell? ⟨g2, k * 5, none⟩ = some (.int .i64 t.kind) := by rw [hw2, show k * 5 = 5 * k + 0 by omega]; exact hc2 0 _ rfl (by decide)
          have q1 : wr.cell? ⟨g2, k * 5 + 1, none⟩ = some (.string t.text) := by rw [hw2, show k * 5 + 1 = 5 * k + 1 by omega]; exact hc2 1 _ rfl (by decide)
          have q2 : wr.cell? ⟨g2, k * 5 + 2, none⟩ = some (.int .i64 t.pos) := by rw [hw2, show k * 5 + 2 = 5 * k + 2 by omega]; exact hc2 2 _ rfl (by decide)
          have q3 : wr.cell? ⟨g2, k * 5 + 3, none⟩ = some (.string t.body) := by rw [hw2, show k * 5 + 3 = 5 * k + 3 by omega]; exact hc2 3 _ rfl (by decide)
          have q4 : wr.cell? ⟨g2, k * 5 + 4, none⟩ = some (.bool t.raw) := by rw [hw2, show k * 5 + 4 = 5 * k + 4 by omega]; exact hc2 4 _ rfl (by decide)
          have hlt1 : (k : Int) < (n1 : Int) := by omega
          have hlt2 : (k : Int) < (n2 : Int) := by omega
          have hltn : k < n2 := by omega
          have hk0 : (0 : Int) ≤ (k : Int) := by omega
          clear hkt hku ht hu hg1 hg2 hc1 hc2 hw1 hw2
          go_wp2_with fail
          go_quiet (fail)
          go_wp2
          go_roundw
          case rel => exact ⟨k + 1, by omega, by go_num, hide ((unhide HB).trans ((below_drew _ _).mono (unhide HB).size))⟩
          case measure => simp [intOf]; omega
        · have hlt1 : ¬ (k : Int) < (n1 : Int) := by omega
          have HEx := hide ((unhide HE2).below (unhide HB) (Nat.le_refl _))
          go_wp2_with fail
          refine (awake_any wr (unhide HEx)).mono ?_
          rintro e w5 ⟨rfl, b5⟩
          have HBx : Hid (Below wA.heap.size wA wr) := hide ((unhide HB2).trans ((unhide HB).mono (unhide HB2).size))
          have B5 := hide b5
          clear b5
          go_wp2
          go_ret
          exact ⟨rfl, (unhide HBx).trans ((unhide B5).mono (unhide HBx).size)⟩

/-- A text that opens something, or one that is too long: the chapter's examples. -/
theorem pl_or (l : List UInt8) : Pl l ∨ ∃ k c, l[k]? = some c ∧ plainB c = false ∧ Pl (l.take k) := by
  induction l with
  | nil => exact .inl (fun c hc => by simp at hc)
  | cons c l ih =>
    by_cases hc : plainB c = true
    · rcases ih with h | ⟨k, d, h1, h2, h3⟩
      · exact .inl (fun x hx => by
          rcases List.mem_cons.1 hx with rfl | hx
          · exact hc
          · exact h x hx)
      · refine .inr ⟨k + 1, d, by simpa using h1, h2, fun x hx => ?_⟩
        rw [List.take_succ_cons] at hx
        rcases List.mem_cons.1 hx with rfl | hx
        · exact hc
        · exact h3 x hx
    · exact .inr ⟨0, c, rfl, by simpa using hc, fun x hx => by simp at hx⟩
theorem plainB_not {c : UInt8} (h : plainB c = false) : c = 92 ∨ c = 39 ∨ c = 34 ∨ c = 40 ∨ c = 123 ∨ c = 60 ∨ c = 96 := by
  unfold plainB at h
  simp at h
  by_cases h1 : c = 92
  · exact .inl h1
  by_cases h2 : c = 39
  · exact .inr (.inl h2)
  by_cases h3 : c = 34
  · exact .inr (.inr (.inl h3))
  by_cases h4 : c = 40
  · exact .inr (.inr (.inr (.inl h4)))
  by_cases h5 : c = 123
  · exact .inr (.inr (.inr (.inr (.inl h5))))
  by_cases h6 : c = 60
  · exact .inr (.inr (.inr (.inr (.inr (.inl h6)))))
  exact .inr (.inr (.inr (.inr (.inr (.inr (h h1 h2 h3 h4 h5 h6))))))

set_option maxRecDepth 20000 in
set_option maxHeartbeats 8000000 in
theorem cuts_not (a b : ByteArray) (w : World) (he : Env w) (ha : a.size ≤ 500) (hb : b.size ≤ 500) (K : Nat) (c : UInt8) (hK : a.data.toList[K]? = some c) (hc : plainB c = false) (hp : Pl (a.data.toList.take K)) :
    Calls Tryd.prog 8 #[.string a, .string b] w fun e w' => e = .returned (.bool true) ∧ Below w.heap.size w w' := by
  have HE := hide he
  have HPL := hide hp
  have hKl : K < a.size := by have := (List.getElem?_eq_some_iff.1 hK).1; rwa [data_len] at this
  have hKc : a[K] = c := by
    rw [← data_get a K hKl]
    exact (List.getElem?_eq_some_iff.1 hK).2
  have ha' : ¬ (500 : Int) < (a.size : Int) := by omega
  have hb' : ¬ (500 : Int) < (b.size : Int) := by omega
  have HNC := hide (plainB_not hc)
  have HAW := hide (awake_any w he)
  clear he hp hK hc
  go_enter Tryd.func8, Tryd.ntmps8
  go_wp2_with fail
  go_loopw [5] (fun i wr => ∃ k : Nat, k ≤ K ∧ i = .int .i64 k ∧ wr = w) (fun i _ => a.size - (intOf i).toNat)
  case atStart => exact ⟨0, by omega, rfl, rfl⟩
  case round =>
    obtain ⟨k, hk, rfl, rfl⟩ := hrel
    have hlt : k < a.size := by omega
    have hlt' : (k : Int) < (a.size : Int) := by omega
    have hk0 : (0 : Int) ≤ (k : Int) := by omega
    by_cases hkK : k < K
    · have hm : a[k] ∈ a.data.toList.take K := by
        rw [← data_get a k hlt]
        exact List.mem_iff_getElem.2 ⟨k, by rw [List.length_take, data_len]; omega, by rw [List.getElem_take]⟩
      obtain ⟨h1, h2, h3, h4, h5, h6, h7⟩ := plainB_of (unhide HPL a[k] hm)
      have n1 : ¬ ((a[k].toNat : Int) = 92) := fun e => h1 (UInt8.toNat_inj.1 (show a[k].toNat = 92 by omega))
      have n2 : ¬ ((a[k].toNat : Int) = 39) := fun e => h2 (UInt8.toNat_inj.1 (show a[k].toNat = 39 by omega))
      have n3 : ¬ ((a[k].toNat : Int) = 34) := fun e => h3 (UInt8.toNat_inj.1 (show a[k].toNat = 34 by omega))
      have n4 : ¬ ((a[k].toNat : Int) = 40) := fun e => h4 (UInt8.toNat_inj.1 (show a[k].toNat = 40 by omega))
      have n5 : ¬ ((a[k].toNat : Int) = 123) := fun e => h5 (UInt8.toNat_inj.1 (show a[k].toNat = 123 by omega))
      have n6 : ¬ ((a[k].toNat : Int) = 60) := fun e => h6 (UInt8.toNat_inj.1 (show a[k].toNat = 60 by omega))
      have n7 : ¬ ((a[k].toNat : Int) = 96) := fun e => h7 (UInt8.toNat_inj.1 (show a[k].toNat = 96 by omega))
      clear h1 h2 h3 h4 h5 h6 h7 hm
      go_wp2
      go_roundw
      case rel => exact ⟨k + 1, by omega, by go_num, by trivial⟩
      case measure => simp [intOf]; omega
    · obtain rfl : k = K := by omega
      rcases unhide HNC with h | h | h | h | h | h | h
      all_goals
        have hv : (a[k].toNat : Int) = (c.toNat : Int) := by rw [hKc]
        rw [h] at hv
        simp only [UInt8.toNat_ofNat] at hv
        go_wp2_with fail
        refine (unhide HAW).mono ?_
        rintro e w5 ⟨rfl, b5⟩
        have B5 := hide b5
        clear b5
        go_wp2
        go_ret
        exact ⟨rfl, unhide B5⟩

set_option maxRecDepth 20000 in
set_option maxHeartbeats 4000000 in
theorem cuts_walk (a b : ByteArray) (w : World) (he : Env w) :
    Calls Tryd.prog 8 #[.string a, .string b] w fun e w' => e = .returned (.bool true) ∧ Below w.heap.size w w' := by
  by_cases ha : a.size ≤ 500
  · by_cases hb : b.size ≤ 500
    · rcases pl_or a.data.toList with h | ⟨k, c, h1, h2, h3⟩
      · exact cuts_end a b w he ha hb h
      · exact cuts_not a b w he ha hb k c h1 h2 h3
    · have ha' : ¬ (500 : Int) < (a.size : Int) := by omega
      have hb' : (500 : Int) < (b.size : Int) := by omega
      go_enter Tryd.func8, Tryd.ntmps8
      go_wp2_with fail
      refine (awake_any w he).mono ?_
      rintro e w1 ⟨rfl, b1⟩
      go_wp2
      go_ret
      exact ⟨rfl, b1⟩
  · have ha' : (500 : Int) < (a.size : Int) := by omega
    go_enter Tryd.func8, Tryd.ntmps8
    go_wp2_with fail
    refine (awake_any w he).mono ?_
    rintro e w1 ⟨rfl, b1⟩
    go_wp2
    go_ret
    exact ⟨rfl, b1⟩

set_option maxRecDepth 100000 in
theorem lexCuts_lifted (os : Os) (started : os.Started) (H : Type) (enc : TypeId × Value → H) :
    ReturnsInHanded {} Tryd.checked os 8 .any (fun w args => (Rows.lexCutsSpec.pre enc Tryd.prog Tryd.f8 [] false w args ∧ laidMetH Tryd.prog seatLaid w) ∧ sizedMet enc Tryd.prog Tryd.f8 (OpenSpec.ofChange Rows.lexCutsSpec) false w args)
      (Rows.lexCutsSpec.post enc Tryd.prog Tryd.f8 false true false false) := by
  refine law_lifted (C := Tryd.checked) (L := seatLaid) (tb := 4) own started (by kernel_rfl) Tryd.func8 laidOut rfl (read_of (by kernel_rfl)) (by kernel_rfl) Tryd.underlying4 ?_
    (ChangeSpec.witness_shaped (enc := enc) (C := Tryd.checked) (os := os) (X := fun w _ => laidMetH Tryd.prog seatLaid w) false (World.laidAll Tryd.prog os seatLaid) #[.string ⟨#[]⟩, .string ⟨#[]⟩] 8 (World.laidAll_os _ _ _)
      (World.shaped_of_ZipB (by kernel_rfl) (by kernel_rfl)) (by kernel_rfl) (by kernel_rfl) (by kernel_rfl) (door_met os _)) ?_
  · intro ds hds
    rw [show Tryd.f8.params.toList.length = 2 from by kernel_rfl] at hds
    match ds, hds with
    | [d0, d1], _ => rfl
  · intro W base args ds ps hval0 hA0 hL hsh
    have hval : ∀ (j : Nat) t v, Tryd.f8.params[j]? = some t → args[j]? = some v → Value.okWide Tryd.prog W .any base t v := hval0
    have hA : DataW.TrodAll enc Tryd.prog W 0 (fun _ => true) true Tryd.f8.params.toList args.toList ds ps := hA0
    rw [Tryd.params8] at hA hval
    obtain ⟨v0, v1, d0, d1, p0, p1, rfl, rfl, rfl, h0, h1⟩ := trodAll_two hA
    obtain ⟨s, rfl, rfl, rfl, _⟩ := open_string Tryd.underlying9 (hval 0 9 v0 rfl rfl) h0
    obtain ⟨s1, rfl, rfl, rfl, _⟩ := open_string Tryd.underlying9 (hval 1 9 v1 rfl rfl) h1
    exact cuts_walk s s1 W (env_of hL hsh)

theorem lexCuts_row : Rows.LexCutsSaid :=
  OpenClaim.holds_of_wide 8 Tryd.f8 rfl rfl rfl rfl rfl rfl rfl ⟨rfl, rfl, rfl, rfl, rfl⟩ rfl rfl rfl rfl rfl (by kernel_rfl) Tryd.func8 (by kernel_rfl)
    (of_decide_eq_true (by kernel_rfl)) (by unfold Func.isWrapper; first | (rw [if_pos (by decide +kernel)]; kernel_rfl) | (rw [if_neg (by decide +kernel)]; exact ⟨rfl, rfl⟩))
    (fun os started H enc _ => lexCuts_lifted os started H enc)

theorem lexCuts_holds : Rows.LexCutsCardSaid :=
  Claim7.holds_tied_plain_at .later [] [.data, .data, .pinned] true (true, "888efd2cc860f4bc7ce121053343fbef125507d58a36e072d99fc54c961cf5f0") false
    lexCuts_row (fun _ h => by cases h) (by kernel_rfl) (fun _ h => by cases h) lexCuts_row_tie rfl ⟨rfl, rfl⟩ (by kernel_rfl) rfl
    (fun f fn hf hfn => by
      obtain rfl : f = 8 := Option.some.inj ((show Tryd.prog.funcNamed "conch/conchlaw04.LexCuts" = some 8 by kernel_rfl).symm.trans hf) |>.symm
      obtain rfl : fn = Tryd.f8 := (Option.some.inj (Tryd.func8.symm.trans hfn)).symm
      exact ⟨by kernel_rfl, fun j t ht => by
        rw [Tryd.params8] at ht
        have hm : t ∈ [9, 9] := by simpa using Array.mem_of_getElem? ht
        have hall : ([9, 9].all fun u => !Tryd.prog.wantsStandIn u) = true := by kernel_rfl
        exact (show Tryd.prog.wantsStandIn t = false by simpa using List.all_eq_true.1 hall t hm)⟩)
    (by kernel_rfl)
#print axioms lexCuts_holds

end Go.Proofs.YtlmpdfeidjnmnaaDoor

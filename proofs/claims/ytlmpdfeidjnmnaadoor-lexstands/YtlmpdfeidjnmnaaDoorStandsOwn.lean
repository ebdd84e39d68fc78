/- For every text: the tokens stand in it at their places, in order, none empty, and what is to blame stands there, too (texts of up to 1000 bytes), and the chapter's examples hold; the call returns true, whatever the memory, and changes nothing. No conditions. -/
import Derived.Test.YtlmpdfeidjnmnaaDoorStart
import Derived.Test.YtlmpdfeidjnmnaaDoorStand
namespace Go.Proofs.YtlmpdfeidjnmnaaDoor
open Go.ChangeShapes Go.WideShapes Go.ChangeAt Go.RowKit
open Go.ChangeMaps (open_string)

/-- Texts that stand in l are no more than its bytes. -/
theorem stands_len {l : List UInt8} : ∀ (ts : List (Int × ByteArray)) (e : Nat), Stands l e ts → e ≤ l.length → ts.length + e ≤ l.length
  | [], e, _, he => by simpa using he
  | t :: ts, e, h, _ => by
    obtain ⟨⟨p, h1, h2, h3, h4, _⟩, h5⟩ := h
    have h0 : 0 < t.2.size := by
      rw [← data_len]
      exact List.length_pos_iff.2 h3
    have he : endOf t = p + t.2.size := by
      unfold endOf
      rw [h1]
      omega
    have := stands_len ts (endOf t) h5 (by omega)
    simp
    omega

set_option maxRecDepth 20000 in
set_option maxHeartbeats 8000000 in
theorem stands_walk (s : ByteArray) (w : World) (he : Env w) :
    Calls Tryd.prog 5 #[.string s] w fun e w' => e = .returned (.bool true) ∧ Below w.heap.size w w' := by
  have HE := hide he
  clear he
  by_cases hb : 1000 < s.size
  · have hb' : (1000 : Int) < (s.size : Int) := by omega
    go_enter Tryd.func5, Tryd.ntmps5
    go_wp2_with fail
    refine (awake_any w (unhide HE)).mono ?_
    rintro e w1 ⟨rfl, b1⟩
    go_wp2
    go_ret
    exact ⟨rfl, b1⟩
  have hb' : ¬ (1000 : Int) < (s.size : Int) := by omega
  have HL := hide (lex_env s w (by omega) (unhide HE))
  obtain ⟨hS, hS0, hS1⟩ := lexL_stands s.data.toList (by rw [data_len]; omega)
  obtain ⟨ts, hts⟩ : ∃ x, x = (lexL s.data.toList).1 := ⟨_, rfl⟩
  obtain ⟨bl, hbl⟩ : ∃ x, x = (lexL s.data.toList).2.1 := ⟨_, rfl⟩
  obtain ⟨fl, hfl⟩ : ∃ x, x = (lexL s.data.toList).2.2 := ⟨_, rfl⟩
  rw [← hts, ← hbl, ← hfl] at HL
  rw [← hts] at hS
  rw [← hbl, ← hfl] at hS0 hS1
  have HS := hide hS
  have HS0 := hide hS0
  have HS1 := hide hS1
  clear hts hbl hfl hS hS0 hS1
  go_enter Tryd.func5, Tryd.ntmps5
  go_wp2_with fail
  refine (unhide HL).mono ?_
  rintro e w1 ⟨v, rfl, b1, r1⟩
  obtain ⟨ad, cap, rfl, hsh⟩ := r1.shape
  obtain ⟨n, hn⟩ : ∃ n, n = ts.length := ⟨_, rfl⟩
  rw [← hn]
  have HSH := hide hsh
  have HN := hide hn
  have HB1 := hide b1
  have HE1 := hide ((unhide HE).below b1 (Nat.le_refl _))
  have hnle : n ≤ 1000 := by
    have := stands_len _ _ (unhide HS) (Nat.zero_le _)
    rw [data_len] at this
    unfold pts at this
    rw [List.length_map, ← hn] at this
    omega
  clear hsh hn b1 r1 HL
  go_wp2_with fail
  go_loopw [6, 7] (fun en i wr => ∃ (k e : Nat), k ≤ n ∧ e ≤ s.size ∧ i = .int .i64 k ∧ en = .int .i64 e ∧ Hid (Below w1.heap.size w1 wr) ∧ Hid (Stands s.data.toList e (pts (ts.drop k)))) (fun _ i _ => n - (intOf i).toNat)
  case atStart => exact ⟨0, 0, by omega, by omega, rfl, rfl, hide (Below.refl _ _), HS⟩
  case round =>
    obtain ⟨k, e, hk, hes, rfl, rfl, HB, HST⟩ := hrel
    by_cases hlt : k < n
    · have hklt : k < ts.length := by have := unhide HN; omega
      obtain ⟨t, ht⟩ : ∃ t, ts[k]? = some t := ⟨_, List.getElem?_eq_getElem hklt⟩
      obtain ⟨g, rfl, hgl, hgc⟩ := unhide HSH k t ht
      have hdr : ts.drop k = t :: ts.drop (k + 1) := by
        rw [List.drop_eq_getElem_cons hklt]
        rw [List.getElem?_eq_getElem hklt] at ht
        injection ht with ht
        rw [ht]
      have hst := unhide HST
      rw [hdr] at hst
      obtain ⟨⟨p, hp1, hp2, hp3, hp4, hp5⟩, hst2⟩ := hst
      have hp1 : t.pos = (p : Int) := hp1
      have hgw : ∀ j, wr.cell? ⟨g, j, none⟩ = w1.cell? ⟨g, j, none⟩ := fun j => World.cell?_of_block ((unhide HB).block g hgl)
      have q0 : wr.cell? ⟨g, k * 5, none⟩ = some (.int .i64 t.kind) := by rw [hgw, show k * 5 = 5 * k + 0 by omega]; exact hgc 0 _ rfl (by decide)
      have q1 : wr.cell? ⟨g, k * 5 + 1, none⟩ = some (.string t.text) := by rw [hgw, show k * 5 + 1 = 5 * k + 1 by omega]; exact hgc 1 _ rfl (by decide)
      have q2 : wr.cell? ⟨g, k * 5 + 2, none⟩ = some (.int .i64 (p : Int)) := by rw [hgw, show k * 5 + 2 = 5 * k + 2 by omega, ← hp1]; exact hgc 2 _ rfl (by decide)
      have q3 : wr.cell? ⟨g, k * 5 + 3, none⟩ = some (.string t.body) := by rw [hgw, show k * 5 + 3 = 5 * k + 3 by omega]; exact hgc 3 _ rfl (by decide)
      have q4 : wr.cell? ⟨g, k * 5 + 4, none⟩ = some (.bool t.raw) := by rw [hgw, show k * 5 + 4 = 5 * k + 4 by omega]; exact hgc 4 _ rfl (by decide)
      obtain ⟨tx, htx⟩ : ∃ tx, tx = t.text := ⟨_, rfl⟩
      have hp4' : p + tx.size ≤ s.size := by rw [htx]; rw [data_len] at hp4; exact hp4
      have hp3' : 0 < tx.size := by
        rw [htx, ← data_len]
        exact List.length_pos_iff.2 hp3
      have hemp := not_empty hp3'
      obtain ⟨z, hz⟩ : ∃ z, z = p + tx.size := ⟨_, rfl⟩
      have hwz : IntKind.i64.wrap ((p : Int) + (tx.size : Int)) = (z : Int) := by rw [IntKind.wrap_i64]; omega
      have hsl : s.extract p z = tx := by
        rw [hz, extract_take, htx]
        have hp5 : (s.data.toList.drop p).take t.text.size = t.text.data.toList := hp5
        rw [hp5]
        exact BA_of _
      have HST2 : Hid (Stands s.data.toList z (pts (ts.drop (k + 1)))) := hide (by
        have : endOf (t.pos, t.text) = z := by
          unfold endOf
          simp only
          rw [hp1, ← htx, hz]
          omega
        rw [← this]
        exact hst2)
      rw [← htx] at q1
      have hlt' : (k : Int) < (n : Int) := by omega
      have hk0 : (0 : Int) ≤ (k : Int) := by omega
      have hpe : ¬ (p : Int) < (e : Int) := by omega
      have hze : ¬ (s.size : Int) < (z : Int) := by omega
      have hpe2 : decide (p < e) = false := decide_eq_false (by omega)
      have hze2 : decide (s.size < z) = false := decide_eq_false (by omega)
      have hpz : (p : Int) ≤ (z : Int) := by omega
      have hzs : (z : Int) ≤ (s.size : Int) := by omega
      have hz2 : z ≤ s.size := by omega
      have hw1k : IntKind.i64.wrap ((k : Int) + 1) = ((k + 1 : Nat) : Int) := by rw [IntKind.wrap_i64]; omega
      have heq : (tx.toList == tx.toList) = true := beq_self_eq_true _
      clear hklt hgw hgc hst2 hp1 hp2 hp3 hp4 hp5 htx hz ht hdr hp3' hp4' HST
      go_wp2_with fail
      go_quiet (fail)
      go_wp2
      go_roundw
      case rel => exact ⟨k + 1, z, by omega, hz2, by go_num, rfl, hide ((unhide HB).trans (((Below.refl _ wr).alloc (Nat.le_refl _) _).trans ((below_drew _ _).mono (by simp)) |>.mono (unhide HB).size)), HST2⟩
      case measure => simp [intOf]; omega
    · have hlt' : ¬ (k : Int) < (n : Int) := by omega
      have HEr := hide ((unhide HE1).below (unhide HB) (Nat.le_refl _))
      have HAW := hide (awake_any wr (unhide HEr))
      have HBB : Hid (Below w.heap.size w wr) := hide ((unhide HB1).trans ((unhide HB).mono (unhide HB1).size))
      by_cases hf : fl = 0
      · have hbl := unhide HS0 hf
        subst hf
        subst hbl
        go_wp2_with fail
        refine (unhide HAW).mono ?_
        rintro en w5 ⟨rfl, b5⟩
        have B5 := hide b5
        clear b5
        go_wp2
        go_ret
        exact ⟨rfl, (unhide HBB).trans ((unhide B5).mono (unhide HBB).size)⟩
      · obtain ⟨h1, h2⟩ := unhide HS1 hf
        have hf' : (fl == 0) = false := by simpa using hf
        have h2' : bl < (s.size : Int) := by rw [data_len] at h2; exact h2
        clear hf h2
        go_wp2_with fail
        refine (unhide HAW).mono ?_
        rintro en w5 ⟨rfl, b5⟩
        have B5 := hide b5
        clear b5
        go_wp2
        go_ret
        exact ⟨rfl, (unhide HBB).trans ((unhide B5).mono (unhide HBB).size)⟩

set_option maxRecDepth 100000 in
theorem lexStands_lifted (os : Os) (started : os.Started) (H : Type) (enc : TypeId × Value → H) :
    ReturnsInHanded {} Tryd.checked os 5 .any (fun w args => (Rows.lexStandsSpec.pre enc Tryd.prog Tryd.f5 [] false w args ∧ laidMetH Tryd.prog seatLaid w) ∧ sizedMet enc Tryd.prog Tryd.f5 (OpenSpec.ofChange Rows.lexStandsSpec) false w args)
      (Rows.lexStandsSpec.post enc Tryd.prog Tryd.f5 false true false false) := by
  refine law_lifted (C := Tryd.checked) (L := seatLaid) (tb := 4) own started (by kernel_rfl) Tryd.func5 laidOut rfl (read_of (by kernel_rfl)) (by kernel_rfl) Tryd.underlying4 ?_
    (ChangeSpec.witness_shaped (enc := enc) (C := Tryd.checked) (os := os) (X := fun w _ => laidMetH Tryd.prog seatLaid w) false (World.laidAll Tryd.prog os seatLaid) #[.string ⟨#[]⟩] 8 (World.laidAll_os _ _ _)
      (World.shaped_of_ZipB (by kernel_rfl) (by kernel_rfl)) (by kernel_rfl) (by kernel_rfl) (by kernel_rfl) (door_met os _)) ?_
  · intro ds hds
    rw [show Tryd.f5.params.toList.length = 1 from by kernel_rfl] at hds
    match ds, hds with
    | [d0], _ => rfl
  · intro W base args ds ps hval0 hA0 hL hsh
    have hval : ∀ (j : Nat) t v, Tryd.f5.params[j]? = some t → args[j]? = some v → Value.okWide Tryd.prog W .any base t v := hval0
    have hA : DataW.TrodAll enc Tryd.prog W 0 (fun _ => true) true Tryd.f5.params.toList args.toList ds ps := hA0
    rw [Tryd.params5] at hA hval
    obtain ⟨v0, d0, rfl, rfl, h0⟩ := trodAll_one hA
    obtain ⟨s, rfl, rfl, rfl, _⟩ := open_string Tryd.underlying9 (hval 0 9 v0 rfl rfl) h0
    exact stands_walk s W (env_of hL hsh)

theorem lexStands_row : Rows.LexStandsSaid :=
  OpenClaim.holds_of_wide 5 Tryd.f5 rfl rfl rfl rfl rfl rfl rfl ⟨rfl, rfl, rfl, rfl, rfl⟩ rfl rfl rfl rfl rfl (by kernel_rfl) Tryd.func5 (by kernel_rfl)
    (of_decide_eq_true (by kernel_rfl)) (by unfold Func.isWrapper; first | (rw [if_pos (by decide +kernel)]; kernel_rfl) | (rw [if_neg (by decide +kernel)]; exact ⟨rfl, rfl⟩))
    (fun os started H enc _ => lexStands_lifted os started H enc)

theorem lexStands_holds : Rows.LexStandsCardSaid :=
  Claim7.holds_tied_plain_at .later [] [.data, .data, .pinned] true (true, "888efd2cc860f4bc7ce121053343fbef125507d58a36e072d99fc54c961cf5f0") false
    lexStands_row (fun _ h => by cases h) (by kernel_rfl) (fun _ h => by cases h) lexStands_row_tie rfl ⟨rfl, rfl⟩ (by kernel_rfl) rfl
    (fun f fn hf hfn => by
      obtain rfl : f = 5 := Option.some.inj ((show Tryd.prog.funcNamed "conch/conchlaw04.LexStands" = some 5 by kernel_rfl).symm.trans hf) |>.symm
      obtain rfl : fn = Tryd.f5 := (Option.some.inj (Tryd.func5.symm.trans hfn)).symm
      exact ⟨by kernel_rfl, fun j t ht => by
        rw [Tryd.params5] at ht
        have hm : t ∈ [9] := by simpa using Array.mem_of_getElem? ht
        have hall : ([9].all fun u => !Tryd.prog.wantsStandIn u) = true := by kernel_rfl
        exact (show Tryd.prog.wantsStandIn t = false by simpa using List.all_eq_true.1 hall t hm)⟩)
    (by kernel_rfl)
#print axioms lexStands_holds

end Go.Proofs.YtlmpdfeidjnmnaaDoor

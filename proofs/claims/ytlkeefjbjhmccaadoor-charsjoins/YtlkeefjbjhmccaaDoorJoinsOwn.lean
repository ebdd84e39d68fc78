/-
  CharsJoins holds: for every by of up to 200 bytes and every up to 50 texts of up to 200 bytes the program's Join answers as the document's, and the chapter's examples come out; longer ones are let by. No condition beyond the card's own (the listed library tables, tied to the program's text).
-/
import Derived.Test.YtlkeefjbjhmccaaDoorStart
import Derived.Test.YtlkeefjbjhmccaaDoorJoin
namespace Go.Proofs.YtlkeefjbjhmccaaDoor
open Go.ChangeShapes Go.WideShapes Go.ChangeAt Go.RowKit
open Go.ChangeMaps (open_string shut_string)

theorem outL_len (xs : List ByteArray) (sep : ByteArray) (hsep : sep.size ≤ 200) (hx : ∀ j (hj : j < xs.length), xs[j].size ≤ 200) : ∀ k, k ≤ xs.length → (outL xs sep k).length ≤ 400 * k
  | 0, _ => by simp [outL_zero]
  | k + 1, h => by
    have hk := hx k (by omega)
    have e1 : xs[k].data.toList.length = xs[k].size := by simp
    have e2 : sep.data.toList.length = sep.size := by simp
    by_cases h0 : k = 0
    · subst h0
      rw [outL_one xs sep (by omega)]; omega
    · have := outL_len xs sep hsep hx k (by omega)
      rw [outL_succ xs sep k (by omega) (by omega), List.length_append, List.length_append]
      omega

/-- What a slice of texts is: empty, or a row of them. -/
def View (w : World) (a : Option Addr) (len cap : Nat) : Prop :=
  len = 0 ∨ ∃ (b o : Nat) (xs : List ByteArray), a = some ⟨b, o, none⟩ ∧ xs.length = len ∧ b < w.heap.size ∧ len ≤ cap ∧ ∀ j (hj : j < xs.length), w.cell? ⟨b, o + j, none⟩ = some (.string xs[j]) ∧ xs[j].size ≤ 9223372036854775807

set_option maxHeartbeats 1000000 in
theorem joins_long (sep : ByteArray) (a : Option Addr) (len cap : Nat) (w : World) (he : Env w) (hs : sep.size ≤ 9223372036854775807) (hl : len ≤ 9223372036854775807) (h : 200 < sep.size ∨ 50 < len) :
    Calls Tryd.prog 7 #[.string sep, .slice a len cap] w fun e w' => e = .returned (.bool true) ∧ Below w.heap.size w w' := by
  by_cases h1 : (200 : Int) < (sep.size : Int)
  · clear h
    go_enter Tryd.func7, Tryd.ntmps7
    go_wp2_with fail
    refine (awake_any _ he).mono ?_
    rintro e w5 ⟨rfl, b5⟩
    go_wp2_with fail
    go_ret
    exact ⟨rfl, b5⟩
  · have h2 : (50 : Int) < (len : Int) := by omega
    clear h
    go_enter Tryd.func7, Tryd.ntmps7
    go_wp2_with fail
    refine (awake_any _ he).mono ?_
    rintro e w5 ⟨rfl, b5⟩
    go_wp2_with fail
    go_ret
    exact ⟨rfl, b5⟩

set_option maxHeartbeats 1000000 in
theorem joins_none (sep : ByteArray) (a : Option Addr) (cap : Nat) (w : World) (he : Env w) (h1 : sep.size ≤ 200) :
    Calls Tryd.prog 7 #[.string sep, .slice a 0 cap] w fun e w' => e = .returned (.bool true) ∧ Below w.heap.size w w' := by
  go_enter Tryd.func7, Tryd.ntmps7
  go_wp2_with fail
  refine wp_loop_rounds 1 ?_
  rw [rounds_succ]
  go_wp2_with fail
  refine (join_none _ _ _ _).mono ?_
  rintro e w1 ⟨rfl, rfl⟩
  go_wp2_with fail
  refine (rjoin_none _ _ _ _).mono ?_
  rintro e w1 ⟨rfl, rfl⟩
  go_wp2_with fail
  refine (awake_any _ he).mono ?_
  rintro e w5 ⟨rfl, b5⟩
  go_wp2_with fail
  go_ret
  exact ⟨rfl, b5⟩

set_option maxHeartbeats 1000000 in
theorem joins_some (sep : ByteArray) (b o cap : Nat) (xs : List ByteArray) (w : World) (he : Env w) (h1 : sep.size ≤ 200) (h2 : xs.length ≤ 50) (hb : b < w.heap.size) (hcap : xs.length ≤ cap)
    (hc : ∀ j (hj : j < xs.length), w.cell? ⟨b, o + j, none⟩ = some (.string xs[j]) ∧ xs[j].size ≤ 9223372036854775807) :
    Calls Tryd.prog 7 #[.string sep, .slice (some ⟨b, o, none⟩) xs.length cap] w fun e w' => e = .returned (.bool true) ∧ Below w.heap.size w w' := by
  have HC := hide hc
  clear hc
  go_enter Tryd.func7, Tryd.ntmps7
  go_wp2_with fail
  go_loop [5] (fun i => ∃ (k : Nat), k ≤ xs.length ∧ i = .int .i64 k ∧ ∀ j (hj : j < xs.length), j < k → xs[j].size ≤ 200) (fun i => xs.length - (intOf i).toNat)
  case atStart => exact ⟨0, Nat.zero_le _, rfl, fun j _ hjk => absurd hjk (by omega)⟩
  case round =>
    obtain ⟨k, hk, rfl, hx⟩ := hrel
    have HX := hide hx
    clear hx
    by_cases hlt : k < xs.length
    · obtain ⟨hcx, hsz⟩ := (unhide HC) k hlt
      by_cases hl : (200 : Int) < (xs[k].size : Int)
      · go_wp2_with fail
        refine (awake_any _ he).mono ?_
        rintro e w5 ⟨rfl, b5⟩
        go_wp2_with fail
        go_ret
        exact ⟨rfl, b5⟩
      · go_wp2_with fail
        go_round
        case rel =>
          refine ⟨k + 1, by omega, by go_num, fun j hj hjk => ?_⟩
          by_cases e : j < k
          · exact (unhide HX) j hj e
          · have : j = k := by omega
            subst this; omega
        case measure => simp [intOf]; omega
    · have hx : ∀ j (hj : j < xs.length), xs[j].size ≤ 200 := fun j hj => (unhide HX) j hj (by omega)
      have hO := outL_len xs sep h1 hx xs.length (Nat.le_refl _)
      have hO2 : (Lib.join (xs.map (·.data.toList)) sep.data.toList).length ≤ 140737488355328 := by
        have e : outL xs sep xs.length = Lib.join (xs.map (·.data.toList)) sep.data.toList := by
          unfold outL; rw [List.take_of_length_le (Nat.le_refl _)]
        rw [← e]; omega
      have HX2 := hide hx
      have HO2 := hide hO2
      clear hO hO2 hx
      go_wp2_with fail
      refine (join_some b o cap xs sep _ (fun j x hj => by
        obtain ⟨hj', rfl⟩ := List.getElem?_eq_some_iff.1 hj
        exact ((unhide HC) j hj').1) hb (by omega) hcap (unhide HO2)).mono ?_
      rintro e w1 ⟨rfl, b1⟩
      go_wp2_with fail
      refine (rjoin_some b o cap xs sep _ (fun j hj => (b1.cell (p := ⟨b, o + j, none⟩) hb).trans ((unhide HC) j hj).1) h2 h1 (unhide HX2)).mono ?_
      rintro e w2 ⟨rfl, rfl⟩
      go_wp2_with fail
      refine (awake_any _ (he.below b1)).mono ?_
      rintro e w5 ⟨rfl, b5⟩
      go_wp2_with fail
      go_ret
      exact ⟨rfl, b1.trans (b5.mono b1.size)⟩

theorem joins_walk (sep : ByteArray) (a : Option Addr) (len cap : Nat) (w : World) (he : Env w) (hs : sep.size ≤ maxLen) (hl : len ≤ maxLen) (hv : View w a len cap) :
    Calls Tryd.prog 7 #[.string sep, .slice a len cap] w fun e w' => e = .returned (.bool true) ∧ Below w.heap.size w w' := by
  unfold maxLen at hs hl
  by_cases h : 200 < sep.size ∨ 50 < len
  · exact joins_long sep a len cap w he hs hl h
  · rcases hv with rfl | ⟨b, o, xs, rfl, rfl, hb, hcap, hc⟩
    · exact joins_none sep a cap w he (by omega)
    · exact joins_some sep b o cap xs w he (by omega) (by omega) hb hcap hc

theorem view_of {H : Type} {enc : TypeId × Value → H} {W : World} {a : Option Addr} {len cap : Nat} {d : DataW H} {p : List MemPlace} (h : DataW.Trod enc Tryd.prog W 0 (fun _ => true) true 35 (.slice a len cap) d p) :
    len ≤ maxLen ∧ View W a len cap := by
  obtain ⟨fuel, hf⟩ := h
  rcases open_strings Tryd.underlying35 Tryd.underlying9 (by kernel_rfl) hf with ⟨hcs, _⟩ | ⟨x, l, c, ss, hcs, _, hl, hm, hz, _, hcell, hws⟩
  · simp [Value.cells] at hcs
    obtain ⟨rfl, rfl, rfl⟩ := hcs
    exact ⟨by decide, .inl rfl⟩
  · simp [Value.cells] at hcs
    obtain ⟨rfl, rfl, rfl⟩ := hcs
    refine ⟨by omega, ?_⟩
    by_cases h0 : len = 0
    · exact .inl h0
    · right
      have hz' : ss.length = cap := by simpa using hz
      obtain ⟨b, o, spot⟩ := x
      have hc0 := hcell 0 (by omega)
      have hspot : spot = none := by simpa [Addr.add] using World.cell?_spot hc0
      subst hspot
      refine ⟨b, o, ss.take len, rfl, by simp; omega, ?_, hl, fun j hj => ?_⟩
      · have := World.block_lt_of_cell? _ _ hc0
        simpa [Addr.add] using this
      · have hj' : j < len := by simp at hj; omega
        have hc := hcell j (by omega)
        have e : ss.getD j ByteArray.empty = (ss.take len)[j] := by
          rw [List.getElem_take, List.getD_eq_getElem?_getD, List.getElem?_eq_getElem (by omega)]; rfl
        rw [e] at hc
        have ea : ((⟨b, o, none⟩ : Addr).add j) = ⟨b, o + j, none⟩ := by
          by_cases hj0 : j = 0
          · subst hj0; simp [Addr.add]
          · simp [Addr.add, hj0]
        rw [ea] at hc
        refine ⟨hc, ?_⟩
        have := hws _ (List.mem_of_mem_take (List.getElem_mem hj))
        unfold maxLen at this
        exact this

set_option maxRecDepth 100000 in
theorem charsJoins_lifted (os : Os) (started : os.Started) (H : Type) (enc : TypeId × Value → H) :
    ReturnsInHanded {} Tryd.checked os 7 .any (fun w args => (Rows.charsJoinsSpec.pre enc Tryd.prog Tryd.f7 [] false w args ∧ laidMetH Tryd.prog seatLaid w) ∧ sizedMet enc Tryd.prog Tryd.f7 (OpenSpec.ofChange Rows.charsJoinsSpec) false w args)
      (Rows.charsJoinsSpec.post enc Tryd.prog Tryd.f7 false true false false) := by
  refine law_lifted (C := Tryd.checked) (L := seatLaid) (tb := 4) own started (by kernel_rfl) Tryd.func7 laidOut rfl (read_of (by kernel_rfl)) (by kernel_rfl) Tryd.underlying4 ?_
    (ChangeSpec.witness_shaped (enc := enc) (C := Tryd.checked) (os := os) (X := fun w _ => laidMetH Tryd.prog seatLaid w) false (World.laidAll Tryd.prog os seatLaid) #[.string ⟨#[]⟩, .slice none 0 0] 8 (World.laidAll_os _ _ _)
      (World.shaped_of_ZipB (by kernel_rfl) (by kernel_rfl)) (by kernel_rfl) (by kernel_rfl) (by kernel_rfl) (door_met os _)) ?_
  · intro ds hds
    rw [show Tryd.f7.params.toList.length = 2 from by kernel_rfl] at hds
    match ds, hds with
    | [d0, d1], _ => rfl
  · intro W base args ds ps hval0 hA0 hL hsh
    have hval : ∀ (j : Nat) t v, Tryd.f7.params[j]? = some t → args[j]? = some v → Value.okWide Tryd.prog W .any base t v := hval0
    have hA : DataW.TrodAll enc Tryd.prog W 0 (fun _ => true) true Tryd.f7.params.toList args.toList ds ps := hA0
    rw [Tryd.params7] at hA hval
    obtain ⟨v0, v1, d0, d1, p0, p1, rfl, rfl, rfl, h0, h1⟩ := trodAll_two hA
    obtain ⟨sep, rfl, rfl, rfl, hs⟩ := open_string Tryd.underlying9 (hval 0 9 v0 rfl rfl) h0
    obtain ⟨a0, len, cap, rfl⟩ := okWide_slice Tryd.underlying35 (hval 1 35 v1 rfl rfl)
    have hv := view_of h1
    exact joins_walk sep a0 len cap W (env_of hL hsh) hs hv.1 hv.2

theorem charsJoins_row : Rows.CharsJoinsSaid :=
  OpenClaim.holds_of_wide 7 Tryd.f7 rfl rfl rfl rfl rfl rfl rfl ⟨rfl, rfl, rfl, rfl, rfl⟩ rfl rfl rfl rfl rfl (by kernel_rfl) Tryd.func7 (by kernel_rfl)
    (of_decide_eq_true (by kernel_rfl)) (by unfold Func.isWrapper; first | (rw [if_pos (by decide +kernel)]; kernel_rfl) | (rw [if_neg (by decide +kernel)]; exact ⟨rfl, rfl⟩))
    (fun os started H enc _ => charsJoins_lifted os started H enc)

theorem charsJoins_holds : Rows.CharsJoinsCardSaid :=
  Claim7.holds_tied_plain_at .later [] [.data, .data, .data, .data, .pinned] true (true, "3544cd5e2a4251992c4ab006778037500598c2ffcfc3900b6cc93534d37210b0") false
    charsJoins_row (fun _ h => by cases h) (by kernel_rfl) (fun _ h => by cases h) charsJoins_row_tie rfl ⟨rfl, rfl⟩ (by kernel_rfl) rfl
    (fun f fn hf hfn => by
      obtain rfl : f = 7 := Option.some.inj ((show Tryd.prog.funcNamed "conch/conchlaw01.CharsJoins" = some 7 by kernel_rfl).symm.trans hf) |>.symm
      obtain rfl : fn = Tryd.f7 := (Option.some.inj (Tryd.func7.symm.trans hfn)).symm
      exact ⟨by kernel_rfl, fun j t ht => by
        rw [Tryd.params7] at ht
        have hm : t ∈ [9, 35] := by simpa using Array.mem_of_getElem? ht
        have hall : ([9, 35].all fun u => !Tryd.prog.wantsStandIn u) = true := by kernel_rfl
        exact (show Tryd.prog.wantsStandIn t = false by simpa using List.all_eq_true.1 hall t hm)⟩)
    (by kernel_rfl)
#print axioms charsJoins_holds

end Go.Proofs.YtlkeefjbjhmccaaDoor

/- For every up to 20 lines of up to 40 bytes: a text in place of these lines is taken up as it is, up to the end line, and what follows goes on behind it (lines without a byte 10, other than the end line), and the chapter's examples hold; the call returns true, whatever the memory, and changes nothing. No conditions. -/
import Derived.Test.YtlmpdfeidjnmnaaDoorStart
import Derived.Test.YtlmpdfeidjnmnaaDoorHere
namespace Go.Proofs.YtlmpdfeidjnmnaaDoor
open Go.ChangeShapes Go.WideShapes Go.ChangeAt Go.RowKit
open Go.ChangeMaps (open_string)

/-- What a slice of texts is: empty, or a row of them. -/
def View (w : World) (a : Option Addr) (len cap : Nat) : Prop :=
  len = 0 ∨ ∃ (b o : Nat) (xs : List ByteArray), a = some ⟨b, o, none⟩ ∧ xs.length = len ∧ b < w.heap.size ∧ len ≤ cap ∧ ∀ j (hj : j < xs.length), w.cell? ⟨b, o + j, none⟩ = some (.string xs[j]) ∧ xs[j].size ≤ 9223372036854775807


theorem heres_long (a : Option Addr) (len cap : Nat) (w : World) (he : Env w) (hl : len ≤ 9223372036854775807) (h : 20 < len) :
    Calls Tryd.prog 7 #[.slice a len cap] w fun e w' => e = .returned (.bool true) ∧ Below w.heap.size w w' := by
  have h2 : (20 : Int) < (len : Int) := by omega
  clear h
  go_enter Tryd.func7, Tryd.ntmps7
  go_wp2_with fail
  refine (awake_any _ he).mono ?_
  rintro e w5 ⟨rfl, b5⟩
  go_wp2_with fail
  go_ret
  exact ⟨rfl, b5⟩

/-- The first k of some texts, as lists. -/
def lns (xs : List ByteArray) (k : Nat) : List (List UInt8) := (xs.take k).map (fun x => x.data.toList)
theorem lns_succ {xs : List ByteArray} {k : Nat} (h : k < xs.length) : lns xs (k + 1) = lns xs k ++ [xs[k].data.toList] := by
  unfold lns
  rw [List.take_add_one, List.getElem?_eq_getElem h, List.map_append]
  rfl

/-- What is known of the lines so far. -/
def Fine (xs : List ByteArray) (k : Nat) : Prop := ∀ l ∈ lns xs k, ((∀ c ∈ l, c ≠ 10) ∧ l ≠ [69, 78, 68]) ∧ l.length ≤ 40
theorem Fine.body {xs : List ByteArray} {k : Nat} (h : Fine xs k) : (bodyL (lns xs k)).length ≤ 41 * k := by
  have : ∀ ls : List (List UInt8), (∀ l ∈ ls, l.length ≤ 40) → (bodyL ls).length ≤ 41 * ls.length := by
    intro ls
    induction ls with
    | nil => intro _; simp [bodyL]
    | cons l ls ih =>
      intro hl
      have e : bodyL (l :: ls) = l ++ 10 :: bodyL ls := by simp [bodyL]
      have h1 := hl l (by simp)
      have h2 := ih (fun x hx => hl x (by simp [hx]))
      rw [e, List.length_append, List.length_cons, List.length_cons]
      omega
  have h1 := this (lns xs k) (fun l hl => (h l hl).2)
  have h2 : (lns xs k).length ≤ k := by unfold lns; rw [List.length_map, List.length_take]; omega
  have h3 : 41 * (lns xs k).length ≤ 41 * k := Nat.mul_le_mul_left 41 h2
  omega

set_option maxRecDepth 20000 in
set_option maxHeartbeats 8000000 in
theorem heres_some (b o cap : Nat) (a : Option Addr) (xs : List ByteArray) (w : World) (he : Env w) (h2 : xs.length ≤ 20) (hab : xs ≠ [] → a = some ⟨b, o, none⟩)
    (hc : ∀ j (hj : j < xs.length), w.cell? ⟨b, o + j, none⟩ = some (.string xs[j]) ∧ xs[j].size ≤ 9223372036854775807) :
    Calls Tryd.prog 7 #[.slice a xs.length cap] w fun e w' => e = .returned (.bool true) ∧ Below w.heap.size w w' := by
  have HC := hide hc
  have HE := hide he
  have HAB := hide hab
  have HAW := hide (awake_any w he)
  obtain ⟨n, hn⟩ : ∃ n, n = xs.length := ⟨_, rfl⟩
  have HN := hide hn
  have hn20 : n ≤ 20 := by omega
  rw [← hn]
  clear hc he hab hn h2
  go_enter Tryd.func7, Tryd.ntmps7
  go_wp2_with fail
  go_loopw [3, 4] (fun bd i wr => ∃ k : Nat, k ≤ n ∧ i = .int .i64 k ∧ bd = .string (BA (bodyL (lns xs k))) ∧ Hid (Fine xs k) ∧ wr = w) (fun _ i _ => n - (intOf i).toNat)
  case atStart => exact ⟨0, by omega, rfl, rfl, hide (fun l hl => by simp [lns] at hl), rfl⟩
  case round =>
    obtain ⟨k, hk, rfl, rfl, HF, rfl⟩ := hrel
    by_cases hlt : k < n
    · have hkx : k < xs.length := by have := unhide HN; omega
      have ha := unhide HAB (fun e => by rw [e] at hkx; simp at hkx)
      subst ha
      obtain ⟨hcx, hsz⟩ := unhide HC k hkx
      obtain ⟨x, hx⟩ : ∃ x, x = xs[k] := ⟨_, rfl⟩
      rw [← hx] at hcx hsz
      have HSU : Hid (lns xs (k + 1) = lns xs k ++ [x.data.toList]) := hide (by rw [hx]; exact lns_succ hkx)
      have hlt' : (k : Int) < (n : Int) := by omega
      have hk0 : (0 : Int) ≤ (k : Int) := by omega
      clear hx hkx
      by_cases hl : 40 < x.size
      · have hl' : (40 : Int) < (x.size : Int) := by omega
        go_wp2_with fail
        refine (unhide HAW).mono ?_
        rintro e w5 ⟨rfl, b5⟩
        have B5 := hide b5
        clear b5
        go_wp2
        go_ret
        exact ⟨rfl, unhide B5⟩
      have hl' : ¬ (40 : Int) < (x.size : Int) := by omega
      by_cases hE : x = ⟨#[69, 78, 68]⟩
      · subst hE
        go_wp2_with fail
        refine (unhide HAW).mono ?_
        rintro e w5 ⟨rfl, b5⟩
        have B5 := hide b5
        clear b5
        go_wp2
        go_ret
        exact ⟨rfl, unhide B5⟩
      have hE1 : (x.toList == [69, 78, 68]) = false := by
        rw [beq_eq_false_iff_ne, ByteArray.toList_eq]
        intro e
        exact hE (by rw [← BA_of x, e]; rfl)
      have HEE : Hid (x.data.toList ≠ [69, 78, 68]) := hide (fun e => hE (by rw [← BA_of x, e]; rfl))
      have hb20 := (unhide HF).body
      have hbs : (bodyL (lns xs k)).length ≤ 1000 := by omega
      clear hE hb20
      obtain ⟨wA, hwA⟩ : ∃ y, y = wr := ⟨_, rfl⟩
      subst hwA
      go_wp2_with fail
      go_loopw [5] (fun i wr => ∃ j : Nat, j ≤ x.size ∧ i = .int .i64 j ∧ wr = wA ∧ Hid (∀ c ∈ x.data.toList.take j, c ≠ 10)) (fun i _ => x.size - (intOf i).toNat)
      case atStart => exact ⟨0, by omega, rfl, rfl, hide (fun c hc => by simp at hc)⟩
      case round =>
        obtain ⟨j, hj, rfl, rfl, HJ⟩ := hrel
        by_cases hjl : j < x.size
        · have hj' : (j : Int) < (x.size : Int) := by omega
          have hj0 : (0 : Int) ≤ (j : Int) := by omega
          by_cases h10 : x[j] = 10
          · have hv : (x[j].toNat : Int) = 10 := by rw [h10]; rfl
            go_wp2_with fail
            refine (unhide HAW).mono ?_
            rintro e w5 ⟨rfl, b5⟩
            have B5 := hide b5
            clear b5
            go_wp2
            go_ret
            exact ⟨rfl, unhide B5⟩
          · have hv : ¬ (x[j].toNat : Int) = 10 := fun e => h10 (UInt8.toNat_inj.1 (show x[j].toNat = 10 by omega))
            have HJ2 : Hid (∀ c ∈ x.data.toList.take (j + 1), c ≠ 10) := hide (by
              intro c hc
              rw [List.take_add_one, List.getElem?_eq_getElem (by rw [data_len]; exact hjl), data_get x j hjl] at hc
              rcases List.mem_append.1 hc with hc | hc
              · exact unhide HJ c hc
              · simp at hc; rw [hc]; exact h10)
            clear h10
            go_wp2
            go_roundw
            case rel => exact ⟨j + 1, by omega, by go_num, by trivial, HJ2⟩
            case measure => simp [intOf]; omega
        · have hj' : ¬ (j : Int) < (x.size : Int) := by omega
          have HF2 : Hid (Fine xs (k + 1)) := hide (by
            intro l hl
            rw [unhide HSU] at hl
            rcases List.mem_append.1 hl with hl | hl
            · exact unhide HF l hl
            · simp at hl
              rw [hl]
              have h1 := unhide HJ
              rw [List.take_of_length_le (by rw [data_len]; omega)] at h1
              exact ⟨⟨h1, unhide HEE⟩, by rw [data_len]; omega⟩)
          have HBD : Hid (BA (bodyL (lns xs k)) ++ x ++ ⟨#[10]⟩ = BA (bodyL (lns xs (k + 1)))) := hide (by
            rw [unhide HSU, bodyL_snoc]
            apply ByteArray.ext
            apply Array.ext'
            simp [BA])
          have hbs2 : (BA (bodyL (lns xs k))).size ≤ 1000 := by rw [BA_size]; exact hbs
          go_wp2
          go_roundw
          case rel => exact ⟨k + 1, by omega, by go_num, by rw [← unhide HBD], HF2, by trivial⟩
          case measure => simp [intOf]; omega
    · have hlt' : ¬ (k : Int) < (n : Int) := by omega
      obtain rfl : k = n := by omega
      have hfb := (unhide HF).body
      obtain ⟨p, hp⟩ := lexL_here (lns xs k) (fun l hl => (unhide HF l hl).1) (by omega)
      obtain ⟨B, hB⟩ : ∃ B, B = bodyL (lns xs k) := ⟨_, rfl⟩
      rw [← hB] at hp hfb
      rw [← hB]
      obtain ⟨s, hs⟩ : ∃ s : ByteArray, s = (⟨#[97, 32, 60, 60, 39, 69, 78, 68, 39, 32, 98, 10]⟩ : ByteArray) ++ BA B ++ ⟨#[69, 78, 68, 10, 99]⟩ := ⟨_, rfl⟩
      have hsl : s.data.toList = [97, 32, 60, 60, 39, 69, 78, 68, 39, 32, 98, 10] ++ B ++ [69, 78, 68, 10, 99] := by rw [hs]; simp [BA]
      have hss : s.size ≤ 100000 := by rw [← data_len, hsl, List.length_append, List.length_append]; simp; omega
      have hlx := lex_env s wr hss (unhide HE)
      rw [hsl, hp] at hlx
      have HLX := hide hlx
      have hBs : (BA B).size ≤ 1000 := by rw [BA_size]; omega
      have hBl : B.length ≤ 1000 := by omega
      clear hlx hp hsl hss hB hfb
      go_wp2_with fail
      rw [← hs]
      refine (unhide HLX).mono ?_
      rintro e w2 ⟨v2, rfl, b2, r2⟩
      obtain ⟨g, cp, rfl, c2⟩ := r2.at (n := 6) rfl (by decide)
      have d1 : w2.cell? ⟨g, 8, none⟩ = some (.string (BA B)) := c2 1 _ rfl 3 _ rfl (by decide)
      have d2 : w2.cell? ⟨g, 9, none⟩ = some (.bool true) := c2 1 _ rfl 4 _ rfl (by decide)
      have d3 : w2.cell? ⟨g, 16, none⟩ = some (.string ⟨#[98]⟩) := c2 3 _ rfl 1 _ rfl (by decide)
      have d4 : w2.cell? ⟨g, 20, none⟩ = some (.int .i64 3) := c2 4 _ rfl 0 _ rfl (by decide)
      have d5 : w2.cell? ⟨g, 26, none⟩ = some (.string ⟨#[99]⟩) := c2 5 _ rfl 1 _ rfl (by decide)
      have HAW2 := hide (awake_any w2 ((unhide HE).below b2 (Nat.le_refl _)))
      have B2 := hide b2
      have hself : ((BA B).toList == (BA B).toList) = true := beq_self_eq_true _
      clear c2 r2 b2 HLX
      go_wp2_with fail
      refine (unhide HAW2).mono ?_
      rintro e w5 ⟨rfl, b5⟩
      have B5 := hide b5
      clear b5
      go_wp2
      go_ret
      exact ⟨rfl, (unhide B2).trans ((unhide B5).mono (unhide B2).size)⟩

theorem heres_walk (a : Option Addr) (len cap : Nat) (w : World) (he : Env w) (hl : len ≤ maxLen) (hv : View w a len cap) :
    Calls Tryd.prog 7 #[.slice a len cap] w fun e w' => e = .returned (.bool true) ∧ Below w.heap.size w w' := by
  unfold maxLen at hl
  by_cases h : 20 < len
  · exact heres_long a len cap w he hl h
  · rcases hv with rfl | ⟨b, o, xs, rfl, rfl, hb, hcap, hc⟩
    · exact heres_some 0 0 cap a [] w he (by decide) (fun e => absurd rfl e) (fun j hj => by simp at hj)
    · exact heres_some b o cap _ xs w he (by omega) (fun _ => rfl) hc

theorem view_of {H : Type} {enc : TypeId × Value → H} {W : World} {a : Option Addr} {len cap : Nat} {d : DataW H} {p : List MemPlace} (h : DataW.Trod enc Tryd.prog W 0 (fun _ => true) true 38 (.slice a len cap) d p) :
    len ≤ maxLen ∧ View W a len cap := by
  obtain ⟨fuel, hf⟩ := h
  rcases open_strings Tryd.underlying38 Tryd.underlying9 (by kernel_rfl) hf with ⟨hcs, _⟩ | ⟨x, l, c, ss, hcs, _, hl, hm, hz, _, hcell, hws⟩
  · simp [Value.cells] at hcs
    obtain ⟨rfl, rfl, rfl⟩ := hcs
    exact ⟨by decide, .inl rfl⟩
  · simp [Value.cells] at hcs
    obtain ⟨rfl, rfl, rfl⟩ := hcs
    refine ⟨by omega, ?_⟩
    by_cases h0 : len = 0
    · exact .inl h0
    · right
      have hz' : ss.length = cap := by simpa using hz
      obtain ⟨b, o, spot⟩ := x
      have hc0 := hcell 0 (by omega)
      have hspot : spot = none := by simpa [Addr.add] using World.cell?_spot hc0
      subst hspot
      refine ⟨b, o, ss.take len, rfl, by simp; omega, ?_, hl, fun j hj => ?_⟩
      · have := World.block_lt_of_cell? _ _ hc0
        simpa [Addr.add] using this
      · have hj' : j < len := by simp at hj; omega
        have hc := hcell j (by omega)
        have e : ss.getD j ByteArray.empty = (ss.take len)[j] := by
          rw [List.getElem_take, List.getD_eq_getElem?_getD, List.getElem?_eq_getElem (by omega)]; rfl
        rw [e] at hc
        have ea : ((⟨b, o, none⟩ : Addr).add j) = ⟨b, o + j, none⟩ := by
          by_cases hj0 : j = 0
          · subst hj0; simp [Addr.add]
          · simp [Addr.add, hj0]
        rw [ea] at hc
        refine ⟨hc, ?_⟩
        have := hws _ (List.mem_of_mem_take (List.getElem_mem hj))
        unfold maxLen at this
        exact this

set_option maxRecDepth 100000 in
theorem lexHeres_lifted (os : Os) (started : os.Started) (H : Type) (enc : TypeId × Value → H) :
    ReturnsInHanded {} Tryd.checked os 7 .any (fun w args => (Rows.lexHeresSpec.pre enc Tryd.prog Tryd.f7 [] false w args ∧ laidMetH Tryd.prog seatLaid w) ∧ sizedMet enc Tryd.prog Tryd.f7 (OpenSpec.ofChange Rows.lexHeresSpec) false w args)
      (Rows.lexHeresSpec.post enc Tryd.prog Tryd.f7 false true false false) := by
  refine law_lifted (C := Tryd.checked) (L := seatLaid) (tb := 4) own started (by kernel_rfl) Tryd.func7 laidOut rfl (read_of (by kernel_rfl)) (by kernel_rfl) Tryd.underlying4 ?_
    (ChangeSpec.witness_shaped (enc := enc) (C := Tryd.checked) (os := os) (X := fun w _ => laidMetH Tryd.prog seatLaid w) false (World.laidAll Tryd.prog os seatLaid) #[.slice none 0 0] 8 (World.laidAll_os _ _ _)
      (World.shaped_of_ZipB (by kernel_rfl) (by kernel_rfl)) (by kernel_rfl) (by kernel_rfl) (by kernel_rfl) (door_met os _)) ?_
  · intro ds hds
    rw [show Tryd.f7.params.toList.length = 1 from by kernel_rfl] at hds
    match ds, hds with
    | [d0], _ => rfl
  · intro W base args ds ps hval0 hA0 hL hsh
    have hval : ∀ (j : Nat) t v, Tryd.f7.params[j]? = some t → args[j]? = some v → Value.okWide Tryd.prog W .any base t v := hval0
    have hA : DataW.TrodAll enc Tryd.prog W 0 (fun _ => true) true Tryd.f7.params.toList args.toList ds ps := hA0
    rw [Tryd.params7] at hA hval
    obtain ⟨v0, d0, rfl, rfl, h0⟩ := trodAll_one hA
    obtain ⟨a0, len, cap, rfl⟩ := okWide_slice Tryd.underlying38 (hval 0 38 v0 rfl rfl)
    have hv := view_of h0
    exact heres_walk a0 len cap W (env_of hL hsh) hv.1 hv.2

theorem lexHeres_row : Rows.LexHeresSaid :=
  OpenClaim.holds_of_wide 7 Tryd.f7 rfl rfl rfl rfl rfl rfl rfl ⟨rfl, rfl, rfl, rfl, rfl⟩ rfl rfl rfl rfl rfl (by kernel_rfl) Tryd.func7 (by kernel_rfl)
    (of_decide_eq_true (by kernel_rfl)) (by unfold Func.isWrapper; first | (rw [if_pos (by decide +kernel)]; kernel_rfl) | (rw [if_neg (by decide +kernel)]; exact ⟨rfl, rfl⟩))
    (fun os started H enc _ => lexHeres_lifted os started H enc)

theorem lexHeres_holds : Rows.LexHeresCardSaid :=
  Claim7.holds_tied_plain_at .later [] [.data, .data, .pinned] true (true, "888efd2cc860f4bc7ce121053343fbef125507d58a36e072d99fc54c961cf5f0") false
    lexHeres_row (fun _ h => by cases h) (by kernel_rfl) (fun _ h => by cases h) lexHeres_row_tie rfl ⟨rfl, rfl⟩ (by kernel_rfl) rfl
    (fun f fn hf hfn => by
      obtain rfl : f = 7 := Option.some.inj ((show Tryd.prog.funcNamed "conch/conchlaw04.LexHeres" = some 7 by kernel_rfl).symm.trans hf) |>.symm
      obtain rfl : fn = Tryd.f7 := (Option.some.inj (Tryd.func7.symm.trans hfn)).symm
      exact ⟨by kernel_rfl, fun j t ht => by
        rw [Tryd.params7] at ht
        have hm : t ∈ [38] := by simpa using Array.mem_of_getElem? ht
        have hall : ([38].all fun u => !Tryd.prog.wantsStandIn u) = true := by kernel_rfl
        exact (show Tryd.prog.wantsStandIn t = false by simpa using List.all_eq_true.1 hall t hm)⟩)
    (by kernel_rfl)
#print axioms lexHeres_holds

end Go.Proofs.YtlmpdfeidjnmnaaDoor

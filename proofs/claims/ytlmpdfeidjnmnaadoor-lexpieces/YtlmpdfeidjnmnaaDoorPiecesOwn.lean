/- For every text, every place and either kind of thing: where the program says that the thing ends, or what is wrong and where, is what the document says (texts of up to 1000 bytes), and the chapter's examples hold; the call returns true, whatever the memory, and changes nothing. No conditions. -/
import Derived.Test.YtlmpdfeidjnmnaaDoorStart
import Derived.Test.YtlmpdfeidjnmnaaDoorRPiece
import Derived.Test.YtlmpdfeidjnmnaaDoorPiece
namespace Go.Proofs.YtlmpdfeidjnmnaaDoor
open Go.ChangeShapes Go.WideShapes Go.ChangeAt Go.RowKit
open Go.ChangeMaps (open_string)

set_option maxRecDepth 20000 in
set_option maxHeartbeats 4000000 in
theorem pieces_walk (s : ByteArray) (a : Int) (q : Bool) (w : World) (he : Env w) :
    Calls Tryd.prog 3 #[.string s, .int .i64 a, .bool q] w fun e w' => e = .returned (.bool true) ∧ Below w.heap.size w w' := by
  have HE := hide he
  clear he
  by_cases hb : 1000 < s.size
  · have hb' : (1000 : Int) < (s.size : Int) := by omega
    go_enter Tryd.func3, Tryd.ntmps3
    go_wp2_with fail
    refine (awake_any w (unhide HE)).mono ?_
    rintro e w1 ⟨rfl, b1⟩
    go_wp2
    go_ret
    exact ⟨rfl, b1⟩
  · have hb' : ¬ (1000 : Int) < (s.size : Int) := by omega
    obtain ⟨P, hP⟩ : ∃ P, P = pieceS s a q := ⟨_, rfl⟩
    have HP := hide (piece_any s a q w (by omega))
    rw [← hP] at HP
    go_enter Tryd.func3, Tryd.ntmps3
    go_wp2_with fail
    refine (unhide HP).mono ?_
    rintro e w1 ⟨rfl, b1⟩
    have HR := hide (rpiece_any s a q w1 (by omega))
    rw [← hP] at HR
    have B1 := hide b1
    have HE1 := hide ((unhide HE).below b1 (Nat.le_refl _))
    clear b1 HP
    go_wp2_with fail
    refine (unhide HR).mono ?_
    rintro e w2 ⟨rfl, b2⟩
    have B2 := hide ((unhide B1).trans (b2.mono (unhide B1).size))
    have HE2 := hide ((unhide HE1).below b2 (Nat.le_refl _))
    clear b2
    go_wp2_with fail
    refine (awake_any w2 (unhide HE2)).mono ?_
    rintro e w3 ⟨rfl, b3⟩
    have B3 := hide b3
    clear b3
    go_wp2
    go_ret
    exact ⟨rfl, (unhide B2).trans ((unhide B3).mono (unhide B2).size)⟩

set_option maxRecDepth 100000 in
theorem lexPieces_lifted (os : Os) (started : os.Started) (H : Type) (enc : TypeId × Value → H) :
    ReturnsInHanded {} Tryd.checked os 3 .any (fun w args => (Rows.lexPiecesSpec.pre enc Tryd.prog Tryd.f3 [] false w args ∧ laidMetH Tryd.prog seatLaid w) ∧ sizedMet enc Tryd.prog Tryd.f3 (OpenSpec.ofChange Rows.lexPiecesSpec) false w args)
      (Rows.lexPiecesSpec.post enc Tryd.prog Tryd.f3 false true false false) := by
  refine law_lifted (C := Tryd.checked) (L := seatLaid) (tb := 4) own started (by kernel_rfl) Tryd.func3 laidOut rfl (read_of (by kernel_rfl)) (by kernel_rfl) Tryd.underlying4 ?_
    (ChangeSpec.witness_shaped (enc := enc) (C := Tryd.checked) (os := os) (X := fun w _ => laidMetH Tryd.prog seatLaid w) false (World.laidAll Tryd.prog os seatLaid) #[.string ⟨#[]⟩, .int .i64 0, .bool false] 8 (World.laidAll_os _ _ _)
      (World.shaped_of_ZipB (by kernel_rfl) (by kernel_rfl)) (by kernel_rfl) (by kernel_rfl) (by kernel_rfl) (door_met os _)) ?_
  · intro ds hds
    rw [show Tryd.f3.params.toList.length = 3 from by kernel_rfl] at hds
    match ds, hds with
    | [d0, d1, d2], _ => rfl
  · intro W base args ds ps hval0 hA0 hL hsh
    have hval : ∀ (j : Nat) t v, Tryd.f3.params[j]? = some t → args[j]? = some v → Value.okWide Tryd.prog W .any base t v := hval0
    have hA : DataW.TrodAll enc Tryd.prog W 0 (fun _ => true) true Tryd.f3.params.toList args.toList ds ps := hA0
    rw [Tryd.params3] at hA hval
    obtain ⟨v0, v1, v2, d0, d1, d2, p0, p1, p2, rfl, rfl, rfl, h0, h1, h2⟩ := trodAll_three hA
    obtain ⟨s, rfl, rfl, rfl, _⟩ := open_string Tryd.underlying9 (hval 0 9 v0 rfl rfl) h0
    obtain ⟨n, rfl, rfl, rfl, _⟩ := open_int Tryd.underlying3 (hval 1 3 v1 rfl rfl) h1
    obtain ⟨b, rfl, rfl, rfl⟩ := open_bool Tryd.underlying4 (hval 2 4 v2 rfl rfl) h2
    exact pieces_walk s n b W (env_of hL hsh)

theorem lexPieces_row : Rows.LexPiecesSaid :=
  OpenClaim.holds_of_wide 3 Tryd.f3 rfl rfl rfl rfl rfl rfl rfl ⟨rfl, rfl, rfl, rfl, rfl⟩ rfl rfl rfl rfl rfl (by kernel_rfl) Tryd.func3 (by kernel_rfl)
    (of_decide_eq_true (by kernel_rfl)) (by unfold Func.isWrapper; first | (rw [if_pos (by decide +kernel)]; kernel_rfl) | (rw [if_neg (by decide +kernel)]; exact ⟨rfl, rfl⟩))
    (fun os started H enc _ => lexPieces_lifted os started H enc)

theorem lexPieces_holds : Rows.LexPiecesCardSaid :=
  Claim7.holds_tied_plain_at .later [] [.data, .data, .pinned] true (true, "888efd2cc860f4bc7ce121053343fbef125507d58a36e072d99fc54c961cf5f0") false
    lexPieces_row (fun _ h => by cases h) (by kernel_rfl) (fun _ h => by cases h) lexPieces_row_tie rfl ⟨rfl, rfl⟩ (by kernel_rfl) rfl
    (fun f fn hf hfn => by
      obtain rfl : f = 3 := Option.some.inj ((show Tryd.prog.funcNamed "conch/conchlaw04.LexPieces" = some 3 by kernel_rfl).symm.trans hf) |>.symm
      obtain rfl : fn = Tryd.f3 := (Option.some.inj (Tryd.func3.symm.trans hfn)).symm
      exact ⟨by kernel_rfl, fun j t ht => by
        rw [Tryd.params3] at ht
        have hm : t ∈ [9, 3, 4] := by simpa using Array.mem_of_getElem? ht
        have hall : ([9, 3, 4].all fun u => !Tryd.prog.wantsStandIn u) = true := by kernel_rfl
        exact (show Tryd.prog.wantsStandIn t = false by simpa using List.all_eq_true.1 hall t hm)⟩)
    (by kernel_rfl)
#print axioms lexPieces_holds

end Go.Proofs.YtlmpdfeidjnmnaaDoor

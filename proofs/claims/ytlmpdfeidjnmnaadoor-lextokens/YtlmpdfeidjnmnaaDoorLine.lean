/-
  A line of a text in place: the lexer's 'line'; 'skip' where something is wrong.
-/
import Derived.Test.YtlmpdfeidjnmnaaDoorSkip
namespace Go.Proofs.YtlmpdfeidjnmnaaDoor
open Go.RowKit

set_option maxRecDepth 20000 in
set_option maxHeartbeats 4000000 in
theorem skip_bad (w : World) (b : Nat) (tl : List Value) (s : ByteArray) (p d : Nat) (f bl : Int) (h : Rdr w b 53 tl s p d f bl) (hf : f ≠ 0) :
    Calls Tryd.prog 18 #[.pointer (some ⟨b, 0, none⟩)] w fun e w' => e = .returned (.tuple #[]) ∧ ∃ k, w' = w.drewN k := by
  have hmo := more_any h
  have hmb : moreB s p f = false := by unfold moreB; rw [show (f == 0) = false by simpa using hf]; rfl
  rw [hmb] at hmo
  have HMO := hide hmo
  clear hmo hmb h hf
  go_enter Tryd.func18, Tryd.ntmps18
  go_wp2_with fail
  go_loopw [8] (fun _ wr => wr = w) (fun _ _ => 0)
  case atStart => rfl
  case round =>
    subst hrel
    go_wp2_with fail
    refine (unhide HMO).mono ?_
    rintro en w1 ⟨rfl, k1, hw1⟩
    subst hw1
    go_wp2
    refine bodyPost_end (res0 rfl _ _) rfl ?_
    exact ⟨rfl, k1, rfl⟩

set_option maxRecDepth 20000 in
set_option maxHeartbeats 4000000 in
theorem line_any (w : World) (b : Nat) (tl : List Value) (s : ByteArray) (p d : Nat) (m : Int) (h : Rdr w b 53 tl s p d 0 0) (hm : w.cell? ⟨1, 0, none⟩ = some (.int .i64 m)) :
    Calls Tryd.prog 59 #[.pointer (some ⟨b, 0, none⟩)] w fun e w' => e = .returned (.string (BA ((s.data.toList.drop p).takeWhile (fun x => x != 10)))) ∧ w.grownBy w' (some b) ∧ ∃ q, s.data.toList.drop q = ((s.data.toList.drop p).dropWhile (fun x => x != 10)).drop 1 ∧ Rdr w' b 53 tl s q d 0 0 := by
  have hlen := h.len
  have hle := h.le
  have hcut : Lib.cut (s.data.toList.drop p) [10] = ((s.data.toList.drop p).takeWhile (fun x => x != 10), ((s.data.toList.drop p).dropWhile (fun x => x != 10)).drop 1, !((s.data.toList.drop p).dropWhile (fun x => x != 10)).isEmpty) := cut_one 10 _
  have happ := List.takeWhile_append_dropWhile (p := fun x => x != 10) (l := s.data.toList.drop p)
  obtain ⟨D, hD⟩ : ∃ x, x = (s.data.toList.drop p).dropWhile (fun x => x != 10) := ⟨_, rfl⟩
  obtain ⟨A, hA⟩ : ∃ x, x = (s.data.toList.drop p).takeWhile (fun x => x != 10) := ⟨_, rfl⟩
  obtain ⟨C, hC⟩ : ∃ x, x = !D.isEmpty := ⟨_, rfl⟩
  rw [← hA, ← hD, ← hC] at hcut
  rw [← hA, ← hD] at happ ⊢
  obtain ⟨B, hB⟩ : ∃ x, x = D.drop 1 := ⟨_, rfl⟩
  rw [← hB] at hcut ⊢
  have hal : A.length + D.length = s.size - p := by
    have h := congrArg List.length happ
    rw [List.length_append, List.length_drop, data_len] at h
    exact h
  obtain ⟨q1, hq1⟩ : ∃ x, x = p + A.length := ⟨_, rfl⟩
  obtain ⟨q2, hq2⟩ : ∃ x, x = q1 + 1 := ⟨_, rfl⟩
  obtain ⟨q, hq⟩ : ∃ x, x = min q2 s.size := ⟨_, rfl⟩
  have hw1 : IntKind.i64.wrap ((p : Int) + (A.length : Int)) = (q1 : Int) := by rw [IntKind.wrap_i64]; omega
  have hw2 : IntKind.i64.wrap ((q1 : Int) + 1) = (q2 : Int) := by rw [IntKind.wrap_i64]; omega
  have hmn : min (q2 : Int) (s.size : Int) = (q : Int) := by omega
  have hqs : q ≤ s.size := by omega
  have hd1 : s.data.toList.drop q1 = D := by
    rw [hq1, ← List.drop_drop]
    conv => lhs; rw [← happ]
    exact List.drop_left
  have HDQ : Hid (s.data.toList.drop q = B) := hide (by
    rw [hB, ← hd1, List.drop_drop]
    rcases Nat.le_total q2 s.size with h1 | h1
    · rw [show q = q1 + 1 by omega]
    · rw [drop_nil (show s.size ≤ q by omega), drop_nil (by omega)])
  have HCUT : Hid (∀ W, W.cell? ⟨1, 0, none⟩ = some (.int .i64 m) → Calls Tryd.prog 38 #[.string (s.extract p s.size), .string ⟨#[10]⟩] W fun e w' => e = .returned (.tuple #[.string (BA A), .string (BA B), .bool C]) ∧ ∃ n, w' = W.drewN n) := hide (fun W hW => by
    have := Tryd.strings_Cut (s.extract p s.size) ⟨#[10]⟩ m W (by rw [ByteArray.size_extract]; omega) hW
    rw [extract_end, BA_list, show (⟨#[10]⟩ : ByteArray).data.toList = [10] from rfl, hcut] at this
    rw [extract_end]
    exact this)
  have c1 := h.c1
  have c2 := h.c2
  have z2 := h.blk.frozen 2
  have H := hide h
  have HM := hide hm
  clear h hm hcut happ hD hA hC hB hal hq1 hq2 hq hd1
  go_enter Tryd.func59, Tryd.ntmps59
  go_wp2_with fail
  go_quiet ((go_at_call 38; exact Calls.quiet_of (unhide HCUT _ (unhide HM))))
  go_wp2_with fail
  go_region
  all_goals
    go_wp2
    go_ret
    exact ⟨rfl, (grown_but (grown_drewN w _) _).trans ((grown_but ⟨rfl, rfl, rfl, Nat.le_refl _, fun _ _ _ => rfl⟩ _).trans (grown_setCell _ ⟨b, 2, none⟩ _)), q, unhide HDQ, (((unhide H).drewN _).kept ⟨rfl, rfl, rfl, Nat.le_refl _, fun _ _ _ => rfl⟩).to q hqs⟩

end Go.Proofs.YtlmpdfeidjnmnaaDoor

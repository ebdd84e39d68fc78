/-
  The law's Size: it reads alone.
-/
import Derived.Test.YtodcfgbcigjjfaaDoorWSame
import Derived.Test.YtodcfgbcigjjfaaDoorGrown
import Derived.Deep.QuietTactic
import Derived.BigQuiet
namespace Go.Proofs.YtodcfgbcigjjfaaDoor
open Go.RowKit

mutual
def szP : Prt → Int
  | .mk _ _ _ _ _ s => szL 0 s
def szL : Int → List Prt → Int
  | n, [] => n
  | n, p :: r => if n ≤ 600 then szL (IntKind.i64.wrap (IntKind.i64.wrap (IntKind.i64.wrap (n + 1) + min (p.text.length : Int) 1000) + szP p)) r else n
end
theorem szP_sub (p : Prt) : szP p = szL 0 p.sub := by cases p; rw [szP]; rfl
theorem szL_nil (n : Int) : szL n [] = n := by rw [szL]
theorem szL_cons (n : Int) (p : Prt) (r : List Prt) : szL n (p :: r) = if n ≤ 600 then szL (IntKind.i64.wrap (IntKind.i64.wrap (IntKind.i64.wrap (n + 1) + min (p.text.length : Int) 1000) + szP p)) r else n := by rw [szL]

set_option maxRecDepth 20000 in
set_option maxHeartbeats 4000000 in
theorem size_all : ∀ (N : Nat) (a : List Prt) (x : Value) (w : World) (A : Nat → Prop), SizeOf.sizeOf a ≤ N → WAt w A x a → Calls Tryd.prog 7 #[x] w fun e w' => e = .returned (.int .i64 (szL 0 a)) ∧ ∃ m, w' = w.drewN m
  | 0, a, _, _, _, hN, _ => absurd hN (by cases a <;> simp)
  | N + 1, a, x, w, A, hN, hx => by
    obtain ⟨ada, capa, rfl, hla⟩ := hx.len
    have HX := hide hx
    have HS := hide (size_all N)
    have HSN := hide hN
    clear hx hN
    go_enter Tryd.func7, Tryd.ntmps7
    go_wp2
    go_loopw [3, 4] (fun s i wr => ∃ (k : Nat) (n : Int), k ≤ a.length ∧ i = .int .i64 k ∧ s = .int .i64 n ∧ Hid (szL n (a.drop k) = szL 0 a) ∧ Hid (∃ m, wr = w.drewN m)) (fun _ i _ => a.length - (intOf i).toNat)
    case atStart => exact ⟨0, 0, Nat.zero_le _, rfl, rfl, hide rfl, hide ⟨0, rfl⟩⟩
    case round =>
      obtain ⟨k, n, hk, rfl, rfl, HE, HM⟩ := hrel
      by_cases hlt : k < a.length
      · obtain ⟨p, hp⟩ := get_ex hlt
        have hdr : a.drop k = p :: a.drop (k + 1) := by
          obtain ⟨h1, h2⟩ := List.getElem?_eq_some_iff.1 hp
          rw [List.drop_eq_getElem_cons h1, h2]
        by_cases hn : n ≤ 600
        · obtain ⟨n1, hn1⟩ : ∃ z, IntKind.i64.wrap (n + 1) = z := ⟨_, rfl⟩
          obtain ⟨mm, hmm⟩ : ∃ z, min (p.text.length : Int) 1000 = z := ⟨_, rfl⟩
          obtain ⟨n2, hn2⟩ : ∃ z, IntKind.i64.wrap (n1 + mm) = z := ⟨_, rfl⟩
          obtain ⟨q, hq⟩ : ∃ z, szP p = z := ⟨_, rfl⟩
          obtain ⟨n3, hn3⟩ : ∃ z, IntKind.i64.wrap (n2 + q) = z := ⟨_, rfl⟩
          have HE2 : Hid (szL n3 (a.drop (k + 1)) = szL 0 a) := hide (by rw [← unhide HE, hdr, szL_cons, if_pos hn, hn1, hmm, hn2, hq, hn3])
          have hwat : WAt wr A (.slice ada a.length capa) a := (unhide HX).kept (fun k _ => by obtain ⟨m, hm⟩ := unhide HM; rw [hm]; rfl) (fun _ h => h)
          obtain ⟨g, o, v, had, hg, c0, c1, c2, c3, c4, c5, hsub⟩ := hwat.part hp
          obtain ⟨va, vc, rfl, _⟩ := hsub.len
          subst had
          have hlt1 : (k : Int) < (a.length : Int) := by omega
          have HQ : Hid (∀ W : World, (∃ m, W = wr.drewN m) → Calls Tryd.prog 7 #[.slice va p.sub.length vc] W fun e w' => e = .returned (.int .i64 q) ∧ ∃ m, w' = W.drewN m) := hide (fun W hW => by
            have := unhide HS p.sub _ W A (by have := sub_lt p a (mem_of hp); have := unhide HSN; omega) (hsub.kept (fun k _ => by obtain ⟨m, hm⟩ := hW; rw [hm]; rfl) (fun _ h => h))
            rwa [← szP_sub, hq] at this)
          clear hwat hsub hp hdr hq HE hg c0 c2 c3 c4
          go_wp2_with fail
          go_quiet ((go_at_call 7; exact Calls.quiet_of (unhide HQ _ ⟨_, rfl⟩)))
          go_wp2
          go_roundw
          case rel => exact ⟨k + 1, n3, by omega, by go_num, rfl, HE2, hide (by obtain ⟨m, hm⟩ := unhide HM; subst hm; exact ⟨_, World.drewN_drewN _ _ _⟩)⟩
          case measure => simp [intOf]; omega
        · have HE2 : Hid (n = szL 0 a) := hide (by rw [← unhide HE, hdr, szL_cons, if_neg hn])
          have hlt1 : (k : Int) < (a.length : Int) := by omega
          clear hp hdr HE
          go_wp2
          go_ret
          exact ⟨ret_int (unhide HE2), unhide HM⟩
      · go_wp2
        go_ret
        refine ⟨ret_int ?_, unhide HM⟩
        rw [← unhide HE, List.drop_eq_nil_of_le (by omega), szL_nil]

end Go.Proofs.YtodcfgbcigjjfaaDoor

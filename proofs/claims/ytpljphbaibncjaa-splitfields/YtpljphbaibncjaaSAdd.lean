/-
  A field that is being made, in memory: (*making).add.
-/
import Derived.Test.YtpljphbaibncjaaSOwn
namespace Go.Proofs.Ytpljphbaibncjaa
open Go.RowKit

/-- The field that is being made, at block b; where its rows may have turned since w. -/
def Adds (w wr : World) (B b : Nat) (tv qv : Value) (tl : List UInt8) (ql : List Bool) : Prop :=
  ∃ tv' qv', Blk wr b 50 #[tv', qv'] ∧ OwnB wr B tv' tl ∧ OwnQ wr B qv' ql ∧ GrownS w wr (fun k => k = b ∨ tv.ownBlock = some k ∨ qv.ownBlock = some k) ∧
    (∀ k, tv'.ownBlock = some k → tv.ownBlock = some k ∨ w.heap.size ≤ k) ∧ (∀ k, qv'.ownBlock = some k → qv.ownBlock = some k ∨ w.heap.size ≤ k)
theorem adds_refl {w : World} {B b : Nat} {tv qv : Value} {tl : List UInt8} {ql : List Bool} (h : Blk w b 50 #[tv, qv]) (ht : OwnB w B tv tl) (hq : OwnQ w B qv ql) : Adds w w B b tv qv tl ql :=
  ⟨tv, qv, h, ht, hq, grownS_of_below (Below.refl _ _), fun _ h => .inl h, fun _ h => .inl h⟩
/-- Rows of bytes and of bools lie apart. -/
theorem own_apart {w : World} {B B' n m k sz sz' : Nat} {e e' : TypeId} {v v' : Value} {xs ys : List Value} (h : w.ownsRow B e sz v n xs) (h' : w.ownsRow B' e' sz' v' m ys) (hne : e ≠ e') (hk : v.ownBlock = some k) : v'.ownBlock ≠ some k := by
  obtain ⟨_, ⟨rfl, _⟩ | ⟨g, cap, cur, rfl, hb, hg, _⟩⟩ := h
  · cases hk
  · have e1 := ownb hk
    subst e1
    intro hk'
    exact own_type h' (show Blk w g e cur from hg) hne hk'.symm
theorem adds_str {w wr w1 : World} {B b : Nat} {tv qv tv' qv' v1 : Value} {tl t : List UInt8} {ql : List Bool} (hb : Blk wr b 50 #[tv', qv']) (ht : OwnB wr B tv' tl) (hq : OwnQ wr B qv' ql) (hg : GrownS w wr (fun k => k = b ∨ tv.ownBlock = some k ∨ qv.ownBlock = some k))
    (h1 : ∀ k, tv'.ownBlock = some k → tv.ownBlock = some k ∨ w.heap.size ≤ k) (h2 : ∀ k, qv'.ownBlock = some k → qv.ownBlock = some k ∨ w.heap.size ≤ k)
    (hown : w1.ownsRow B 5 1 v1 (tl.length + (BA t).size) (Lib.byteCells tl ++ Lib.strCells (BA t))) (hgr : wr.grownBy w1 tv'.ownBlock) (hat : ∀ k, v1.ownBlock = some k → tv'.ownBlock = some k ∨ wr.heap.size ≤ k) :
    w1.cell? ⟨b, 0, none⟩ = some tv' ∧ w1.frozen? ⟨b, 0, none⟩ = false ∧ Adds w (w1.setCell ⟨b, 0, none⟩ v1) B b tv qv (tl ++ t) ql := by
  have hbv : some b ≠ tv'.ownBlock := own_type ht hb (by decide)
  have g1 : GrownS wr w1 (fun k => some k = tv'.ownBlock) := GrownS.of hgr (fun _ e => e)
  have k1 := hb.grownS g1 hbv
  have q1 : OwnQ w1 B qv' ql := own_grownS hq g1 (fun k hk e => own_apart hq ht (by decide) hk e.symm)
  have ho : OwnB w1 B v1 (tl ++ t) := own_push (by simp) rfl hown
  have gs := setb_grown w1 b 0 v1
  refine ⟨k1.cell 0 rfl, k1.frozen 0, v1, qv', ?_, own_grownS ho gs (fun k hk e => own_type ho k1 (by decide) (by rw [← e]; exact hk.symm)), own_grownS q1 gs (fun k hk e => own_type q1 k1 (by decide) (by rw [← e]; exact hk.symm)), ?_, ?_, h2⟩
  · have := k1.set 0 v1
    simpa using this
  · refine ⟨gs.os.trans (g1.os.trans hg.os), gs.tape.trans (g1.tape.trans hg.tape), gs.output.trans (g1.output.trans hg.output), Nat.le_trans hg.size (Nat.le_trans g1.size gs.size), fun k hk hn => ?_⟩
    have hk1 := Nat.lt_of_lt_of_le hk hg.size
    rw [gs.block k (Nat.lt_of_lt_of_le hk1 g1.size) (fun e => hn (.inl e)), g1.block k hk1 (fun e => ?_), hg.block k hk hn]
    rcases h1 k e.symm with e | e
    · exact hn (.inr (.inl e))
    · omega
  · intro k hk
    rcases hat k hk with e | e
    · exact h1 k e
    · exact .inr (Nat.le_trans hg.size e)
theorem adds_bool {w wr w1 : World} {B b g cap n : Nat} {tv qv tv' qv' : Value} {tl : List UInt8} {ql : List Bool} {x : Bool} (hb : Blk wr b 50 #[tv', qv']) (ht : OwnB wr B tv' tl) (hq : OwnQ wr B qv' ql) (hg : GrownS w wr (fun k => k = b ∨ tv.ownBlock = some k ∨ qv.ownBlock = some k))
    (h1 : ∀ k, tv'.ownBlock = some k → tv.ownBlock = some k ∨ w.heap.size ≤ k) (h2 : ∀ k, qv'.ownBlock = some k → qv.ownBlock = some k ∨ w.heap.size ≤ k) (hn : ql.length = n)
    (hown : w1.ownsRow B 4 1 (.slice (some ⟨g, 0, none⟩) (n + 1) cap) (n + 1) (ql.map Value.bool ++ [.bool x])) (hgr : (wr.alloc (.cells #[.bool x] 4)).grownBy w1 qv'.ownBlock) (hat : qv'.ownBlock = some g ∨ g = wr.heap.size + 1) :
    w1.cell? ⟨b, 1, none⟩ = some qv' ∧ w1.frozen? ⟨b, 1, none⟩ = false ∧ Adds w (w1.setCell ⟨b, 1, none⟩ (.slice (some ⟨g, 0, none⟩) (n + 1) cap)) B b tv qv tl (ql ++ [x]) := by
  have hbv : some b ≠ qv'.ownBlock := own_type hq hb (by decide)
  have g1 : GrownS wr w1 (fun k => some k = qv'.ownBlock) := (GrownS.of (World.grownBy_alloc wr _ none) (by simp)).trans (GrownS.of hgr (fun _ e => e))
  have k1 := hb.grownS g1 hbv
  have t1 : OwnB w1 B tv' tl := own_grownS ht g1 (fun k hk e => own_apart ht hq (by decide) hk e.symm)
  have ho : OwnQ w1 B (.slice (some ⟨g, 0, none⟩) (n + 1) cap) (ql ++ [x]) := own_pushQ (by simp; omega) rfl hown
  have gs := setb_grown w1 b 1 (.slice (some ⟨g, 0, none⟩) (n + 1) cap)
  refine ⟨k1.cell 1 rfl, k1.frozen 1, tv', _, ?_, own_grownS t1 gs (fun k hk e => own_type t1 k1 (by decide) (by rw [← e]; exact hk.symm)), own_grownS ho gs (fun k hk e => own_type ho k1 (by decide) (by rw [← e]; exact hk.symm)), ?_, h1, ?_⟩
  · have := k1.set 1 (.slice (some ⟨g, 0, none⟩) (n + 1) cap)
    simpa using this
  · refine ⟨gs.os.trans (g1.os.trans hg.os), gs.tape.trans (g1.tape.trans hg.tape), gs.output.trans (g1.output.trans hg.output), Nat.le_trans hg.size (Nat.le_trans g1.size gs.size), fun k hk hn => ?_⟩
    have hk1 := Nat.lt_of_lt_of_le hk hg.size
    rw [gs.block k (Nat.lt_of_lt_of_le hk1 g1.size) (fun e => hn (.inl e)), g1.block k hk1 (fun e => ?_), hg.block k hk hn]
    rcases h2 k e.symm with e | e
    · exact hn (.inr (.inr e))
    · omega
  · intro k hk
    have e1 := ownb hk
    subst e1
    rcases hat with e | e
    · exact h2 g e
    · have := hg.size; right; omega

set_option maxRecDepth 20000 in
set_option maxHeartbeats 4000000 in
theorem add_any (t : List UInt8) (q : Bool) (w : World) (B b : Nat) (tv qv : Value) (tl : List UInt8) (ql : List Bool) (hb : Blk w b 50 #[tv, qv]) (ht : OwnB w B tv tl) (hq : OwnQ w B qv ql) (hB : B ≤ w.heap.size) (hl : tl.length + t.length ≤ 1000000) (hl2 : ql.length + t.length ≤ 1000000) :
    Calls Try.prog 22 #[.pointer (some ⟨b, 0, none⟩), .string (BA t), .bool q] w fun e w' => e = .returned (.tuple #[]) ∧ Adds w w' B b tv qv (tl ++ t) (ql ++ List.replicate t.length q) := by
  obtain ⟨i0, hi, hz0, hz1, hz2⟩ := info_of info_byte
  obtain ⟨i1, hj, hy0, hy1, hy2⟩ := info_of info_bool
  obtain ⟨ba, bn, bc, rfl⟩ := slice_own ht
  have c0 : w.cell? ⟨b, 0, none⟩ = some (.slice ba bn bc) := hb.cell 0 rfl
  have HO := hide ht
  have HA := hide (fun (w1 : World) (v1 : Value) a b' c => adds_str (w := w) (tv := .slice ba bn bc) (qv := qv) (w1 := w1) (v1 := v1) (t := t) hb ht hq (grownS_of_below (Below.refl _ _)) (fun _ h => .inl h) (fun _ h => .inl h) a b' c)
  clear hb ht hq
  go_enter Try.func22, Try.ntmps22
  go_wp2_with (first
    | (at_builtin; refine wpList_append_str rfl (.tmp 10) (.tmp 11) 48 9 rfl B 5 i0 und_bytes und_str hi hz0 hz1 hz2 (.slice ba bn bc) tl.length (Lib.byteCells tl) rfl (unhide HO) (BA t) rfl (by unfold maxLen; simp; omega) (by simp; omega) (by omega) ?_)
    | go_in)
  intro v' w1 hown hgrow hat
  obtain ⟨va, vn, vc, rfl⟩ := slice_own hown
  obtain ⟨d0, z0, hP⟩ := unhide HA w1 _ hown hgrow hat
  have hs1 := hgrow.size
  have HP := hide hP
  clear hown hgrow hat hP
  go_wp2
  obtain ⟨wA, hwA⟩ : ∃ x, x = w1.setCell ⟨b, 0, none⟩ (.slice va vn vc) := ⟨_, rfl⟩
  rw [← hwA] at HP ⊢
  have hsA : w.heap.size ≤ wA.heap.size := by rw [hwA]; simpa using hs1
  clear hwA d0 z0 c0 hs1
  go_loopw [17] (fun i wr => ∃ k : Nat, i = .int .i64 k ∧ k ≤ t.length ∧ w.heap.size ≤ wr.heap.size ∧ Hid (Adds w wr B b (.slice ba bn bc) qv (tl ++ t) (ql ++ List.replicate k q))) (fun i _ => t.length - (intOf i).toNat)
  case atStart => exact ⟨0, rfl, Nat.zero_le _, hsA, by simpa using HP⟩
  case round =>
    obtain ⟨k, rfl, hk, hsr, HR⟩ := hrel
    by_cases hlt : k < t.length
    · obtain ⟨qk, hqk⟩ : ∃ x, x = ql ++ List.replicate k q := ⟨_, rfl⟩
      rw [← hqk] at HR
      have e2 : qk.length = ql.length + k := by rw [hqk]; simp
      obtain ⟨tv', qv', a1, a2, a3, a4, a5, a6⟩ := unhide HR
      obtain ⟨qa, qn, qc, rfl⟩ := slice_own a3
      have c1 : wr.cell? ⟨b, 1, none⟩ = some (.slice qa qn qc) := a1.cell 1 rfl
      have HQ := hide a3
      have HB := hide (fun (w1 : World) (g cap : Nat) x y z => adds_bool (w := w) (w1 := w1) (g := g) (cap := cap) (x := q) (n := ql.length + k) a1 a2 a3 a4 a5 a6 e2 x y z)
      have HQK := hide hqk
      have E2 := hide e2
      clear hqk e2 a1 a2 a3 a4 a5 a6
      go_wp2_with (first
        | (at_builtin; refine wpList_append_lies (wr.alloc (.cells #[.bool q] 4)) rfl (.tmp 23) (.tmp 25) 32 rfl B 4 i1 (.bool false) 1 1 und_bools hj hy0 hy1 hy2 rfl (by decide) (.slice qa qn qc) (ql.length + k) (qk.map Value.bool) rfl (World.ownsRow.alloc (unhide E2 ▸ unhide HQ) _) ⟨wr.heap.size, 0, none⟩ 1 1 [.bool q] rfl rfl one_cell one_bool (by decide) (by unfold maxLen; omega) (by omega) (by simp; omega) (wr.heap.size + 1) (by simp) ?_)
        | go_in)
      intro g cap w2 hown hgrow hat hlt2
      obtain ⟨d1, z1, hP⟩ := unhide HB w2 g cap hown hgrow hat
      have hs2 := hgrow.size
      have HP2 := hide hP
      clear hown hgrow hat hP
      go_wp2
      go_roundw
      case rel => exact ⟨k + 1, by go_num, by omega, by simp at hs2 ⊢; omega, hide (by have := unhide HP2; rwa [unhide HQK, List.append_assoc, ← List.replicate_succ'] at this)⟩
      case measure => simp [intOf]; omega
    · go_wp2
      refine bodyPost_end (res0 rfl _ _) rfl ?_
      have : k = t.length := by omega
      subst this
      exact ⟨rfl, unhide HR⟩

end Go.Proofs.Ytpljphbaibncjaa

/-
  Things, plainly: more steps than are needed change nothing; a $ with a name.
  The document's reader at the start and at the end.
  That the document asks at a double quote within quotes as it likes: there is none at a thing's front.
  The document's read.
  The document's Parse and Here of any text.
-/
import Derived.Test.YtnamfjbfcbamjaaGreatDoorP36
import Derived.Test.YtnamfjbfcbamjaaGreatDoorP06
import Derived.Test.YtnamfjbfcbamjaaGreatDoorP14
import Derived.Deep.RegionWith
import Derived.Deep.RegionHeld3
namespace Go.Proofs.YtnamfjbfcbamjaaGreatDoor
theorem more_all : ∀ f : Nat, (∀ c r wh d g, 3 * (r.length + 1) + 3 ≤ f → 3 * (r.length + 1) + 3 ≤ g → thg f (c :: r) wh d = thg g (c :: r) wh d) ∧ (∀ l fr e wh d g, 3 * l.length + 5 ≤ f → 3 * l.length + 5 ≤ g → cls f l fr e wh d = cls g l fr e wh d) ∧ (∀ l fr e wh d g, 3 * l.length + 4 ≤ f → 3 * l.length + 4 ≤ g → lop f l fr e wh d = lop g l fr e wh d)
  | 0 => ⟨fun _ _ _ _ _ h _ => by omega, fun _ _ _ _ _ _ h _ => by omega, fun _ _ _ _ _ _ h _ => by omega⟩
  | f + 1 => by
    obtain ⟨iT, iC, iL⟩ := more_all f
    refine ⟨fun c r wh d g hf hg => ?_, fun l fr e wh d g hf hg => ?_, fun l fr e wh d g hf hg => ?_⟩
    · obtain ⟨g, rfl⟩ : ∃ g', g = g' + 1 := ⟨g - 1, by omega⟩
      have hd : (r.drop 1).length ≤ r.length := by rw [List.length_drop]; omega
      rw [thg_succ, thg_succ, iC r (c :: r) 34 1 d g (by omega) (by omega), iC (r.drop 1) (c :: r) 125 (if quot wh then 3 else 2) d g (by omega) (by omega), iC (r.drop 1) r 41 4 d g (by omega) (by omega), iC r (c :: r) 41 4 d g (by omega) (by omega)]
    · obtain ⟨g, rfl⟩ : ∃ g', g = g' + 1 := ⟨g - 1, by omega⟩
      rw [cls_succ, cls_succ, iL l fr e wh (d + 1) g (by omega) (by omega)]
    · obtain ⟨g, rfl⟩ : ∃ g', g = g' + 1 := ⟨g - 1, by omega⟩
      cases l with
      | nil => rw [lop_nil, lop_nil]
      | cons c r =>
        simp only [List.length_cons] at hf hg
        rw [lop_succ, lop_succ, iT c r wh d g (by omega) (by omega)]
        cases hT : thg g (c :: r) wh d with
        | err x m => rfl
        | ok l' =>
          have hl : l'.length ≤ r.length := by
            obtain ⟨g, rfl⟩ : ∃ g', g = g' + 1 := ⟨g - 1, by omega⟩
            exact thg_lt hT
          simp only
          rw [iL l' fr e wh d g (by omega) (by omega)]
theorem thg_more {f g : Nat} {c : UInt8} {r : List UInt8} {wh d : Nat} (hf : 3 * (r.length + 1) + 3 ≤ f) (hg : 3 * (r.length + 1) + 3 ≤ g) : thg f (c :: r) wh d = thg g (c :: r) wh d := (more_all f).1 c r wh d g hf hg
theorem nmd_head {c : UInt8} {r : List UInt8} (h : nmdN (c :: r) ≠ 0) : c ≠ 123 ∧ c ≠ 40 := by
  constructor
  · rintro rfl
    apply h
    have h1 : frontN (123 :: r) = 0 := by
      unfold frontN
      rfl
    unfold nmdN
    rw [h1]
    rfl
  · rintro rfl
    apply h
    have h1 : frontN (40 :: r) = 0 := by
      unfold frontN
      rfl
    unfold nmdN
    rw [h1]
    rfl
theorem thg_nmd {f : Nat} {r : List UInt8} {wh d : Nat} (h : nmdN r ≠ 0) : thg (f + 1) (36 :: r) wh d = .ok r := by
  rw [thg_succ, if_neg (by decide), if_neg (by decide), if_neg (by decide), if_pos rfl]
  cases r with
  | nil => exact absurd rfl h
  | cons c r =>
    obtain ⟨h1, h2⟩ := nmd_head h
    rw [if_neg (by simpa using h1), if_neg (by simpa using h2)]
theorem thi_nmd {rd : Nat → List UInt8 → Rd} {k : Nat} {r : List UInt8} (h : nmdN r ≠ 0) : thiL false rd k 36 r = .ok [.mk 2 (r.take (nmdN r)) (allW k) 0 false []] (r.drop (nmdN r)) := by
  unfold thiL
  rw [thg_nmd h]
  simp only [Nat.sub_self, List.take_zero]
  unfold thnL
  rw [if_neg (by decide), if_neg (by simp), if_neg (by simp), if_pos ⟨rfl, rfl⟩, if_neg h]
theorem flag_is (k : Nat) (c : UInt8) (hk : k < 6) : flagW false k c = if (c == 34) && (k != 5) then false else decide (2 ≤ k) := by
  have : k = 0 ∨ k = 1 ∨ k = 2 ∨ k = 3 ∨ k = 4 ∨ k = 5 := by omega
  unfold flagW
  rcases this with rfl | rfl | rfl | rfl | rfl | rfl <;> cases (c == 34) <;> rfl
end Go.Proofs.YtnamfjbfcbamjaaGreatDoor
namespace Go.Proofs.YtnamfjbfcbamjaaGreatDoor
open Go.RowKit
theorem RWg.pshape {w : World} {b : Nat} {X : Nat → Prop} {L : List (Prt × Value)} {pv : Value} {er : Int} (h : RWg w b X L pv er) :
    ∃ ad cap, pv = .slice ad L.length cap ∧ ∀ (i : Nat) (x : Prt × Value), L[i]? = some x → ∃ g, ad = some ⟨g, 0, none⟩ ∧ g < w.heap.size ∧ b < g ∧ ∀ j u, (pcs x)[j]? = some u → j < 6 → w.cell? ⟨g, i * 6 + j, none⟩ = some u := by
  obtain ⟨h1, ⟨hv, h0⟩ | ⟨g, cap, cur, hv, hb, hg, _, _, _, htk⟩⟩ := h.row
  · refine ⟨none, 0, by rw [hv, h0], fun i x hi => ?_⟩
    have := (List.getElem?_eq_some_iff.1 hi).1
    omega
  · refine ⟨_, cap, hv, fun i x hi => ⟨g, rfl, (Array.getElem?_eq_some_iff.1 hg).1, by omega, fun j u hu hj => ?_⟩⟩
    have hil := (List.getElem?_eq_some_iff.1 hi).1
    have hp := flatP_get L i j x hi hj
    rw [hu, ← htk, List.getElem?_take, if_pos (by omega)] at hp
    exact Blk.cell (show Blk w g 37 cur from hg) (i * 6 + j) (by simpa using hp)
theorem RWg.wat {w : World} {b : Nat} {X : Nat → Prop} {L : List (Prt × Value)} {pv : Value} {er : Int} (h : RWg w b X L pv er) (hl : L.length ≤ 100000) : WAt w (fun k => b ≤ k ∧ k < w.heap.size) pv (L.map Prod.fst) := by
  obtain ⟨ad, cap, hv, hsh⟩ := h.pshape
  refine ⟨ad, cap, by rw [hv, List.length_map], by rw [List.length_map]; omega, ?_⟩
  by_cases hL : L = []
  · exact .inl (by rw [hL]; rfl)
  · have hpos := List.length_pos_iff.2 hL
    obtain ⟨g, hg, hgl, hbg, _⟩ := hsh 0 L[0] (List.getElem?_eq_getElem hpos)
    refine .inr ⟨g, 0, hg, ⟨by omega, hgl⟩, PsAt.of (fun i p hi => ?_)⟩
    rw [List.getElem?_map, Option.map_eq_some_iff] at hi
    obtain ⟨x, hx, rfl⟩ := hi
    obtain ⟨g', hg', _, _, hc⟩ := hsh i x hx
    have : g' = g := by rw [hg] at hg'; simpa using hg'.symm
    subst this
    obtain ⟨⟨k, t, q, o, c, s⟩, u⟩ := x
    rw [Nat.zero_add]
    refine (PAt_mk ..).2 ⟨hc 0 _ rfl (by decide), hc 1 _ rfl (by decide), hc 2 _ rfl (by decide), hc 3 _ rfl (by decide), hc 4 _ rfl (by decide), u, hc 5 _ rfl (by decide), ?_⟩
    exact (h.sub _ (List.mem_of_getElem? hx)).kept (fun _ _ => rfl) (fun k hk => ⟨by have := hk.1; omega, hk.2.1⟩)
theorem rwt_new (w : World) : RWt (w.alloc (.cells #[.slice none 0 0, .int .i64 0] 59)) w.heap.size (fun k => k = w.heap.size) [] 0 :=
  ⟨[], .slice none 0 0, ⟨Blk.new w _ _, World.ownsRow_nil _ _ _ _, by simp, rfl, by simp [Value.ownBlock], fun k e => by omega, fun k e => by simp; omega⟩, rfl⟩
theorem RAdds.word {w wr : World} {ps : List Prt} {o : Obj} (h : RAdds (w.alloc o) w.heap.size (fun k => k = w.heap.size) ps 0 wr) (hl : ps.length ≤ 100000) : ∃ ad cap, wr.cell? ⟨w.heap.size, 0, none⟩ = some (.slice ad ps.length cap) ∧ Below w.heap.size w wr ∧ WAt wr (fun k => w.heap.size ≤ k ∧ k < wr.heap.size) (.slice ad ps.length cap) ps := by
  obtain ⟨X', ⟨L, pv, hL, rfl⟩, hg, _⟩ := h
  rw [List.length_map] at hl
  have hw := hL.wat hl
  obtain ⟨ad, cap, hpv, _⟩ := hL.pshape
  have c0 : wr.cell? ⟨w.heap.size, 0, none⟩ = some pv := hL.blk.cell 0 rfl
  rw [hpv] at c0 hw
  refine ⟨ad, cap, by rw [List.length_map]; exact c0, ?_, by rw [List.length_map]; exact hw⟩
  exact ((Below.refl _ w).alloc (Nat.le_refl _) o).trans (hg.below (by simp) (fun k e => by omega))
end Go.Proofs.YtnamfjbfcbamjaaGreatDoor
namespace Go.Proofs.YtnamfjbfcbamjaaGreatDoor
theorem depth_all : ∀ f : Nat, (∀ l wh d d' r, thg f l wh d = .ok r → d' ≤ d → thg f l wh d' = .ok r) ∧ (∀ l fr e wh d d' r, cls f l fr e wh d = .ok r → d' ≤ d → cls f l fr e wh d' = .ok r) ∧ (∀ l fr e wh d d' r, lop f l fr e wh d = .ok r → d' ≤ d → lop f l fr e wh d' = .ok r)
  | 0 => ⟨fun l wh d d' r h _ => by rw [thg] at h ⊢; exact h, fun l fr e wh d d' r h _ => by rw [cls] at h ⊢; exact h, fun l fr e wh d d' r h _ => by rw [lop] at h ⊢; exact h⟩
  | f + 1 => by
    obtain ⟨iT, iC, iL⟩ := depth_all f
    refine ⟨fun l wh d d' r h hd => ?_, fun l fr e wh d d' r h hd => ?_, fun l fr e wh d d' r h hd => ?_⟩
    · cases l with
      | nil => rw [thg] at h ⊢; exact h
      | cons c l =>
        rw [thg_succ] at h ⊢
        split
        · next h1 => rw [if_pos h1] at h; exact h
        next h1 =>
        rw [if_neg h1] at h
        split
        · next h2 =>
          rw [if_pos h2] at h
          split
          · next h3 => rw [if_pos h3] at h; exact h
          · next h3 => rw [if_neg h3] at h; exact iC _ _ _ _ _ _ _ h hd
        next h2 =>
        rw [if_neg h2] at h
        split
        · next h3 => rw [if_pos h3] at h; exact h
        next h3 =>
        rw [if_neg h3] at h
        split
        · next h4 =>
          rw [if_pos h4] at h
          split
          · next h5 => rw [if_pos h5] at h; exact iC _ _ _ _ _ _ _ h hd
          · next h5 =>
            rw [if_neg h5] at h
            split
            · next h6 => rw [if_pos h6] at h; exact iC _ _ _ _ _ _ _ h hd
            · next h6 => rw [if_neg h6] at h; exact h
        next h4 =>
        rw [if_neg h4] at h
        split
        · next h5 =>
          rw [if_pos h5] at h
          split
          · next h6 => rw [if_pos h6] at h; exact iC _ _ _ _ _ _ _ h hd
          · next h6 => rw [if_neg h6] at h; exact h
        next h5 =>
        rw [if_neg h5] at h
        exact h
    · rw [cls_succ] at h ⊢
      split at h
      · cases h
      · next h1 =>
        rw [if_neg (by omega)]
        exact iL _ _ _ _ _ _ _ h (by omega)
    · cases l with
      | nil => rw [lop_nil] at h; cases h
      | cons c l =>
        rw [lop_succ] at h ⊢
        split
        · next h1 => rw [if_pos h1] at h; exact h
        · next h1 =>
          rw [if_neg h1] at h
          cases ht : thg f (c :: l) wh d with
          | err x b => rw [ht] at h; cases h
          | ok l' =>
            rw [ht] at h
            rw [iT _ _ _ _ _ ht hd]
            exact iL _ _ _ _ _ _ _ h hd
theorem lop_end : ∀ (f : Nat) {l fr rest : List UInt8} {e : UInt8} {wh d : Nat}, lop f l fr e wh d = .ok rest → 3 * l.length + 4 ≤ f → ∃ t, l = t ++ e :: rest
  | 0, _, _, _, _, _, _, _, h => by omega
  | f + 1, [], _, _, _, _, _, h, _ => by rw [lop_nil] at h; cases h
  | f + 1, c :: l, fr, rest, e, wh, d, h, hf => by
    rw [lop_succ] at h
    split at h
    · next h1 =>
      injection h with h
      subst h
      subst h1
      exact ⟨[], rfl⟩
    · cases ht : thg f (c :: l) wh d with
      | err x b => rw [ht] at h; cases h
      | ok l' =>
        rw [ht] at h
        simp only [List.length_cons] at hf
        obtain ⟨g, rfl⟩ : ∃ g, f = g + 1 := ⟨f - 1, by omega⟩
        have h1 := thg_lt ht
        obtain ⟨t, ht'⟩ := thg_suf ht
        obtain ⟨u, hu⟩ := lop_end (g + 1) h (by omega)
        exact ⟨t ++ u, by rw [ht', hu, List.append_assoc]⟩
def Inq (t : List UInt8) : Prop := ∃ f fr d rest, 3 * (t ++ 34 :: rest).length + 4 ≤ f ∧ lop f (t ++ 34 :: rest) fr 34 1 d = .ok rest
theorem inq_nil : Inq [] := ⟨_, [], 0, [], Nat.le_refl _, by rw [List.nil_append, lop_succ]; rfl⟩
theorem inq_head {c : UInt8} {r : List UInt8} (h : Inq (c :: r)) : c ≠ 34 := by
  obtain ⟨f, fr, d, rest, hf, h⟩ := h
  rintro rfl
  obtain ⟨g, rfl⟩ : ∃ g, f = g + 1 := ⟨f - 1, by omega⟩
  rw [List.cons_append, lop_succ, if_pos rfl] at h
  injection h with h
  have := congrArg List.length h
  simp at this
  omega
theorem inq_step {F : Nat} {c : UInt8} {r rest' : List UInt8} (h : Inq (c :: r)) (ht : thg F (c :: r) 1 0 = .ok rest') (hF : 3 * (r.length + 1) + 3 ≤ F) : Inq rest' := by
  by_cases hr : rest' = []
  · subst hr; exact inq_nil
  have h34 := inq_head h
  obtain ⟨f, fr, d, rest, hf, h⟩ := h
  obtain ⟨g, rfl⟩ : ∃ g, f = g + 1 := ⟨f - 1, by omega⟩
  rw [List.cons_append, lop_succ, if_neg h34] at h
  cases hq : thg g (c :: (r ++ 34 :: rest)) 1 d with
  | err x b => rw [hq] at h; cases h
  | ok l' =>
    rw [hq] at h
    simp only at h
    have hq0 := (depth_all g).1 _ _ _ 0 _ hq (Nat.zero_le _)
    obtain ⟨t, ht'⟩ := thg_suf ht
    have htne : t ≠ [] := by
      rintro rfl
      obtain ⟨G, rfl⟩ : ∃ G, F = G + 1 := ⟨F - 1, by omega⟩
      have := thg_lt ht
      rw [List.nil_append] at ht'
      rw [← ht'] at this
      simp at this
      omega
    rw [ht'] at ht
    have hlen : (t ++ rest').length = r.length + 1 := by rw [← ht']; rfl
    have e2 : c :: (r ++ 34 :: rest) = t ++ (rest' ++ 34 :: rest) := by rw [← List.append_assoc, ← ht']; rfl
    have hl2 : (t ++ (rest' ++ 34 :: rest)).length = r.length + 1 + (rest.length + 1) := by rw [← List.append_assoc, List.length_append, hlen]; simp
    rw [show (c :: r ++ 34 :: rest).length = r.length + 1 + (rest.length + 1) by simp; omega] at hf
    have hz := thg_loc (z := rest' ++ 34 :: rest) (g := g) ht htne (by rw [hlen]; exact hF) (by rw [hl2]; omega) (by
      cases rest' with
      | nil => exact absurd rfl hr
      | cons x y => exact ⟨fun e => (by cases e), fun e => e, fun e => e⟩)
    rw [e2, hz] at hq0
    injection hq0 with hq0
    subst hq0
    have hz2 : (rest' ++ 34 :: rest).length ≤ r.length + 1 + rest.length := by
      have := congrArg List.length ht'
      have h0 : 0 < t.length := List.length_pos_iff.2 htne
      simp at this ⊢
      omega
    exact ⟨g, fr, d, rest, by omega, h⟩
theorem thg_plain {f : Nat} {c : UInt8} {r : List UInt8} {d : Nat} (h1 : c ≠ 92) (h2 : c ≠ 34) (h3 : c ≠ 36) (h4 : c ≠ 96) : thg (f + 1) (c :: r) 1 d = .ok r := by
  rw [thg_succ, if_neg h1, if_neg h2]
  by_cases h5 : c = 39
  · rw [if_pos h5, if_pos (by rfl)]
  · rw [if_neg h5, if_neg h3]
    by_cases h6 : c = 40
    · rw [if_pos h6, if_neg (by omega)]
    · rw [if_neg h6, if_neg h4]
theorem inq_plain {c : UInt8} {r : List UInt8} (h : Inq (c :: r)) (h1 : c ≠ 92) (h3 : c ≠ 36) (h4 : c ≠ 96) : Inq r :=
  inq_step (F := 3 * (r.length + 1) + 2 + 1) h (thg_plain h1 (inq_head h) h3 h4) (Nat.le_refl _)
def plnB (c : UInt8) : Bool := c != 92 && c != 36 && c != 96
theorem inq_drop : ∀ (n : Nat) {r : List UInt8}, Inq r → (∀ c ∈ r.take n, plnB c = true) → Inq (r.drop n)
  | 0, r, h, _ => by simpa using h
  | n + 1, [], h, _ => by simpa using h
  | n + 1, c :: r, h, hp => by
    have hc := hp c (by simp)
    unfold plnB at hc
    simp only [Bool.and_eq_true, bne_iff_ne] at hc
    rw [List.drop_succ_cons]
    exact inq_drop n (inq_plain h hc.1.1 hc.1.2 hc.2) (fun x hx => hp x (by simp [hx]))
theorem nam_pln (c : UInt8) (h : namB (c.toNat : Int) = true) : plnB c = true := by
  unfold plnB
  simp only [Bool.and_eq_true, bne_iff_ne]
  refine ⟨⟨?_, ?_⟩, ?_⟩ <;> rintro rfl <;> revert h <;> decide
theorem nmd_pln (r : List UInt8) : ∀ c ∈ r.take (nmdN r), plnB c = true := by
  have span : ∀ (p : Int → Bool) (l : List UInt8), ∀ c ∈ l.take (spanN p l), p (c.toNat : Int) = true := by
    intro p l c hc
    unfold spanN at hc
    have h1 : l.take (l.takeWhile fun c => p (c.toNat : Int)).length = l.takeWhile fun c => p (c.toNat : Int) := List.prefix_iff_eq_take.1 (List.takeWhile_prefix _) |>.symm
    rw [h1] at hc
    have h2 : (l.takeWhile fun c => p (c.toNat : Int)).all (fun c => p (c.toNat : Int)) = true := List.all_takeWhile
    exact List.all_eq_true.1 h2 c hc
  intro c hc
  unfold nmdN at hc
  split at hc
  · cases r with
    | nil => simp at hc
    | cons x r =>
      have e : frontN (x :: r) = if alpB (x.toNat : Int) = true then spanN namB (x :: r) else 0 := rfl
      rw [e] at hc
      split at hc
      · exact nam_pln c (span namB _ c hc)
      · simp at hc
  · cases r with
    | nil => simp at hc
    | cons x r =>
      simp only at hc
      split at hc
      · next hx =>
        simp at hc
        subst hc
        unfold plnB
        simp only [Bool.and_eq_true, bne_iff_ne]
        refine ⟨⟨?_, ?_⟩, ?_⟩ <;> rintro rfl <;> revert hx <;> decide
      · simp at hc
theorem within_ne (w : Nat) (op : Int) : withinW w op ≠ 2 := by
  unfold withinW
  split
  · decide
  · split <;> decide
theorem brc_congr2 {rd rd' : Nat → List UInt8 → Rd} {w n : Nat} {l : List UInt8} (h : ∀ w t, w ≠ 2 → t.length ≤ n → rd w t = rd' w t) (hl : l.length ≤ n) : brcL rd w l = brcL rd' w l := by
  unfold brcL
  split
  · rfl
  split
  · rfl
  split
  · rfl
  cases hs : sgnL (colonL (l.drop (parN l))) (behindL (l.drop (parN l))) with
  | none => rfl
  | some x =>
    obtain ⟨op, t⟩ := x
    have h1 := sgn_len hs
    have h2 := behind_len (l.drop (parN l))
    have h3 : (l.drop (parN l)).length ≤ l.length := by simp
    simp only [h (withinW w op) t (within_ne w op) (by omega)]
theorem thn_congr2 {rd rd' : Nat → List UInt8 → Rd} {w n : Nat} {c : UInt8} {u rest : List UInt8} (h : ∀ w t, w ≠ 2 → t.length ≤ n → rd w t = rd' w t) (hl : u.length ≤ n) (h2 : c = 34 → u ≠ [] → rd 2 u.dropLast = rd' 2 u.dropLast) : thnL rd w c u rest = thnL rd' w c u rest := by
  unfold thnL lngL
  have h1 := mid_len u
  rw [brc_congr2 (w := w) h (show (u.drop 1).dropLast.length ≤ n by omega)]
  by_cases hc : c = 34 ∧ u ≠ []
  · rw [h2 hc.1 hc.2]
  · rw [if_neg hc, if_neg hc]
theorem flag_eq (w : Nat) (c : UInt8) (h : w ≠ 2 ∨ c ≠ 34) : flagW false w c = flagW true w c := by
  unfold flagW
  rcases h with h | h
  · have : (w == 2) = false := by simpa using h
    rw [this]
    simp
  · have : (c == 34) = false := by simpa using h
    rw [this]
    simp
theorem thn_left {rd : Nat → List UInt8 → Rd} {w : Nat} {c : UInt8} {u rest rest' : List UInt8} {ps : List Prt} (h : thnL rd w c u rest = .ok ps rest') : rest' = rest ∨ rest' = rest.drop (nmdN rest) := by
  unfold thnL at h
  repeat' split at h
  all_goals first
    | (cases h; done)
    | (cases h; exact .inl rfl)
    | (cases h; exact .inr rfl)
theorem fal_eq : ∀ (n : Nat) (l : List UInt8), l.length ≤ n → (∀ w, w ≠ 2 → rdC false w l = rdC true w l) ∧ (Inq l → rdC false 2 l = rdC true 2 l)
  | _, [], _ => ⟨fun w _ => by rw [rdC_nil, rdC_nil], fun _ => by rw [rdC_nil, rdC_nil]⟩
  | 0, _ :: _, h => by simp at h
  | n + 1, c :: r, h => by
    have hr : r.length ≤ n := by simpa using h
    have hS : ∀ w t, w ≠ 2 → t.length ≤ n → rdC false w t = rdC true w t := fun w t hw ht => (fal_eq n t ht).1 w hw
    have key : ∀ w, (w ≠ 2 ∨ c ≠ 34) → (w = 2 → Inq (c :: r)) → rdC false w (c :: r) = rdC true w (c :: r) := by
      intro w hw hq
      have hf := flag_eq w c hw
      have ht : thiL false (rdC false) w c r = thiL true (rdC true) w c r := by
        unfold thiL
        rw [hf]
        cases hg : thg (3 * (r.length + 1) + 3) (c :: r) (if flagW true w c then 1 else 0) 0 with
        | err e m => rfl
        | ok rest =>
          simp only
          refine thn_congr2 hS (by simp; omega) (fun h34 hu => ?_)
          subst h34
          refine (fal_eq n _ (by simp; omega)).2 ?_
          have hfl : flagW true w 34 = false ∨ flagW true w 34 = true := by cases flagW true w 34 <;> simp
          rcases hfl with hfl | hfl
          · rw [hfl, if_neg (by decide), thg_succ, if_neg (by decide), if_pos rfl, if_neg (by decide), cls_succ, if_neg (by decide)] at hg
            obtain ⟨t, ht⟩ := lop_end _ hg (by omega)
            have hlen : r.length - rest.length = t.length + 1 := by rw [ht]; simp; omega
            have e1 : r.take (r.length - rest.length) = t ++ [34] := by
              rw [hlen, ht, show t ++ 34 :: rest = (t ++ [34]) ++ rest by simp, List.take_left' (by simp)]
            rw [e1, List.dropLast_concat]
            rw [ht] at hg
            exact ⟨_, _, _, rest, by rw [← ht]; omega, hg⟩
          · rw [hfl, if_pos rfl, thg_succ, if_neg (by decide), if_pos rfl, if_pos rfl] at hg
            injection hg with hg
            rw [hg] at hu
            simp at hu
      cases hT : thiL true (rdC true) w c r with
      | err e => rw [rdC_err (ht.trans hT), rdC_err hT]
      | ok ps rest =>
        have hle := thi_rest hT
        rw [rdC_ok (ht.trans hT), rdC_ok hT]
        by_cases h2 : w = 2
        · subst h2
          have hI := hq rfl
          rw [(fal_eq n rest (by omega)).2 ?_]
          unfold thiL at hT
          have hfl : flagW true 2 c = true := by
            have : (c == 34) = false := by simpa using inq_head hI
            unfold flagW
            rw [this]
            rfl
          rw [hfl, if_pos rfl] at hT
          cases hg : thg (3 * (r.length + 1) + 3) (c :: r) 1 0 with
          | err e m => rw [hg] at hT; cases hT
          | ok rs =>
            rw [hg] at hT
            have hQ := inq_step hI hg (Nat.le_refl _)
            rcases thn_left hT with e | e
            · rw [e]; exact hQ
            · rw [e]; exact inq_drop _ hQ (nmd_pln rs)
        · rw [(fal_eq n rest (by omega)).1 w h2]
    exact ⟨fun w hw => key w (.inl hw) (fun e => absurd e hw), fun hq => key 2 (.inr (inq_head hq)) (fun _ => hq)⟩
theorem wrd_eq (w : Nat) (l : List UInt8) (hw : w ≠ 2) : wrdL false w l = wrdL true w l := by
  unfold wrdL
  split
  · rfl
  · exact congrArg Rd.word ((fal_eq l.length l (Nat.le_refl _)).1 w hw)
end Go.Proofs.YtnamfjbfcbamjaaGreatDoor
namespace Go.Proofs.YtnamfjbfcbamjaaGreatDoor
open Go.RowKit
def RInv (k : Nat) (ts : ByteArray) (w : World) (p : Nat) (wr : World) : Prop := ∃ evs, rdC false k ts.data.toList = (rdC false k (ts.data.toList.drop p)).pre evs ∧ Few p evs ∧ RAdds (w.alloc (.cells #[.slice none 0 0, .int .i64 0] 59)) w.heap.size (fun k => k = w.heap.size) (evs.foldl addP []) 0 wr
theorem rinv_new (k : Nat) (ts : ByteArray) (w : World) : RInv k ts w 0 (w.alloc (.cells #[.slice none 0 0, .int .i64 0] 59)) :=
  ⟨[], by rw [List.drop_zero]; cases rdC false k ts.data.toList <;> rfl, by simp [Few, tlen], RAdds.refl (rwt_new w)⟩
theorem RInv.below {k : Nat} {ts : ByteArray} {w : World} {p : Nat} {wr w1 : World} (h : RInv k ts w p wr) (hb : Below wr.heap.size wr w1) : RInv k ts w p w1 := by
  obtain ⟨evs, h1, h2, h3⟩ := h
  exact ⟨evs, h1, h2, h3.below hb⟩
theorem RInv.next {k : Nat} {ts : ByteArray} {w : World} {p q : Nat} {w' : World} {evs es : List Prt} {c : UInt8} {rest : List UInt8} (h1 : rdC false k ts.data.toList = (rdC false k (ts.data.toList.drop p)).pre evs) (h2 : Few p evs) (hd : ts.data.toList.drop p = c :: ts.data.toList.drop (p + 1)) (ht : thiL false (rdC false) k c (ts.data.toList.drop (p + 1)) = .ok es rest) (hq : ts.data.toList.drop q = rest) (hpq : q = ts.size - rest.length) (hp : p < ts.size) (h3 : RAdds (w.alloc (.cells #[.slice none 0 0, .int .i64 0] 59)) w.heap.size (fun k => k = w.heap.size) (es.foldl addP (evs.foldl addP [])) 0 w') : RInv k ts w q w' := by
  refine ⟨evs ++ es, ?_, ?_, by rw [List.foldl_append]; exact h3⟩
  · rw [h1, hd, rdC_ok ht, pre_pre, hq]
  · have h5 := thi_few (fun t _ => rdC_few false _ 2 t (Nat.le_refl _)) ht
    have h6 := thi_rest ht
    have h7 : (ts.data.toList.drop (p + 1)).length = ts.size - (p + 1) := by rw [List.length_drop, data_len]
    rw [h7] at h5 h6
    exact few_add h2 h5 (by omega)
theorem drop_rget {ts : ByteArray} {p : Nat} (h : p < ts.size) : ts.data.toList.drop p = ts[p] :: ts.data.toList.drop (p + 1) := by
  have h' : p < ts.data.toList.length := by rw [data_len]; exact h
  rw [List.drop_eq_getElem_cons h']
  rfl
theorem thi_e {rd : Nat → List UInt8 → Rd} {k : Nat} {c : UInt8} {r m : List UInt8} {fl : Bool} {x : Int} (hfl : flagW false k c = fl) (hT : thg (3 * (r.length + 1) + 3) (c :: r) (if fl then 1 else 0) 0 = .err x m) : thiL false rd k c r = .err x := by
  unfold thiL
  rw [hfl, hT]
theorem thi_o {rd : Nat → List UInt8 → Rd} {k : Nat} {c : UInt8} {u rest : List UInt8} {fl : Bool} (hfl : flagW false k c = fl) (hT : thg (3 * ((u ++ rest).length + 1) + 3) (c :: (u ++ rest)) (if fl then 1 else 0) 0 = .ok rest) : thiL false rd k c (u ++ rest) = thnL rd k c u rest := by
  unfold thiL
  rw [hfl, hT]
  simp only
  rw [show (u ++ rest).take ((u ++ rest).length - rest.length) = u by simp]
theorem thn_rest {rd : Nat → List UInt8 → Rd} {w : Nat} {c : UInt8} {u rest rest' : List UInt8} {ps : List Prt} (h : thnL rd w c u rest = .ok ps rest') (hn : c = 36 → u = [] → nmdN rest = 0) : rest' = rest := by
  rcases thn_left h with e | e
  · exact e
  · by_cases hc : c = 36 ∧ u = []
    · rw [e, hn hc.1 hc.2, List.drop_zero]
    · unfold thnL at h
      rw [if_neg hc] at h
      repeat' split at h
      all_goals first
        | (cases h; done)
        | (cases h; rfl)
theorem RAdds.cell {w w' : World} {b : Nat} {X : Nat → Prop} {ps : List Prt} {x : Int} (h : RAdds w b X ps x w') : w'.cell? ⟨b, 1, none⟩ = some (.int .i64 x) := by
  obtain ⟨X', h1, _, _⟩ := h
  exact (h1.err 0).1
set_option maxRecDepth 20000 in
set_option maxHeartbeats 8000000 in
theorem rread_step {N : Nat} (hW : RWordN N) : RWordN (N + 1) := by
  intro k l w hk hN hl
  obtain ⟨ts, hts⟩ : ∃ ts, ts = BA l := ⟨_, rfl⟩
  have hl' : l = ts.data.toList := by rw [hts, BA_list]
  rw [← hts]
  subst hl'
  rw [data_len] at hN hl
  clear hts
  have HWW := hide hW
  obtain ⟨q, hq⟩ : ∃ q, allW k = q := ⟨_, rfl⟩
  have HAL := hide (fun W => rallw_any k W hk)
  rw [hq] at HAL
  have HQ := hide hq
  clear hW hq
  go_enter Tryz.func19, Tryz.ntmps19
  go_wp2_with fail
  go_loopw [7] (fun i wr => ∃ p : Nat, p ≤ ts.size ∧ i = .int .i64 p ∧ Hid (RInv k ts w p wr)) (fun i _ => ts.size - (intOf i).toNat)
  case atStart => exact ⟨0, Nat.zero_le _, rfl, hide (rinv_new k ts w)⟩
  case round =>
    obtain ⟨p, hp, rfl, HI⟩ := hrel
    by_cases hlt : p < ts.size
    · have hlti : (p : Int) < (ts.size : Int) := by omega
      have hp0 : (0 : Int) ≤ (p : Int) := by omega
      obtain ⟨c, hc⟩ : ∃ c, ts[p]'hlt = c := ⟨_, rfl⟩
      have hd := drop_rget hlt
      rw [hc] at hd
      obtain ⟨p1, hp1⟩ : ∃ p1, p1 = p + 1 := ⟨_, rfl⟩
      have hwp : IntKind.i64.wrap ((p : Int) + 1) = (p1 : Int) := by rw [IntKind.wrap_i64]; omega
      have hp1s : (p1 : Int) ≤ (ts.size : Int) := by omega
      have hRl : (ts.data.toList.drop (p + 1)).length = ts.size - (p + 1) := by rw [List.length_drop, data_len]
      obtain ⟨n, hn⟩ : ∃ n, nmdN (ts.data.toList.drop (p + 1)) = n := ⟨_, rfl⟩
      have HN : Hid (∀ W, Calls Tryz.prog 27 #[.string (ts.extract p1 ts.size)] W fun e w' => e = .returned (.int .i64 (n : Int)) ∧ w' = W) := hide (fun W => by
        have := rnamed_any (ts.extract p1 ts.size) W (by rw [ByteArray.size_extract]; omega)
        rw [ext_list, hp1, hn] at this
        rw [hp1]
        exact this)
      obtain ⟨evs, h1, h2, X1, hS, hG, hX1⟩ := unhide HI
      have hfo := fold_few evs []
      have hroom : Room (evs.foldl addP []) (2 * (ts.size - p) + 4) := ⟨by have := hfo.1; have := h2.1; simp at *; omega, by have := hfo.2; have := h2.2; simp [tlen] at *; omega⟩
      have hbwr : w.heap.size < wr.heap.size := hS.lt
      have hBw : Below w.heap.size w wr := ((Below.refl _ w).alloc (Nat.le_refl _) _).trans (hG.below (by simp) (fun k e => by omega))
      clear HI hfo
      by_cases hnm : c = 36 ∧ n ≠ 0
      · obtain ⟨rfl, hn0⟩ := hnm
        have hnR := nmd_le (ts.data.toList.drop (p + 1))
        rw [hn, hRl] at hnR
        have hni : (0 : Int) < (n : Int) := by omega
        obtain ⟨p2, hp2⟩ : ∃ p2, p2 = p1 + n := ⟨_, rfl⟩
        have hwp2 : IntKind.i64.wrap ((p1 : Int) + (n : Int)) = (p2 : Int) := by rw [IntKind.wrap_i64]; omega
        have hp12 : (p1 : Int) ≤ (p2 : Int) := by omega
        have hp2s : (p2 : Int) ≤ (ts.size : Int) := by omega
        have hx : (ts.extract p1 p2).data.toList = (ts.data.toList.drop (p + 1)).take n := by
          have := extract_take ts p1 n
          rw [hp2, this, BA_list, hp1]
        have hxs : (ts.extract p1 p2).size ≤ ts.size - p := by rw [ByteArray.size_extract]; omega
        have HA : Hid (∀ w1, Below wr.heap.size wr w1 → Calls Tryz.prog 28 #[.pointer (some ⟨w.heap.size, 0, none⟩), .agg #[.int .i64 2, .string (ts.extract p1 p2), .bool q, .int .i64 0, .bool false, .slice none 0 0]] w1 fun e w' => e = .returned (.tuple #[]) ∧ RInv k ts w p2 w') := hide (fun w1 hb => by
          refine (rplain_add w1 w.heap.size X1 (evs.foldl addP []) 0 2 (ts.extract p1 p2) q 0 false (hS.below hb) ⟨by have := hroom.1; omega, by have := hroom.2; omega⟩).mono ?_
          rintro e w' ⟨rfl, a⟩
          have ht := thi_nmd (rd := rdC false) (k := k) (r := ts.data.toList.drop (p + 1)) (by rw [hn]; exact hn0)
          rw [hn, unhide HQ] at ht
          refine ⟨rfl, RInv.next h1 h2 hd ht (by rw [List.drop_drop, hp2, hp1]) (by rw [List.length_drop, hRl]; omega) hlt ?_⟩
          rw [hx] at a
          exact RAdds.trans (hG.trans (grownS_of_below hb)) hX1 (RAdds.of_below (Below.refl _ _) a))
        have hmeas : p < p2 := by omega
        have hp2n : p2 ≤ ts.size := by omega
        clear h1 h2 hS hG hX1 hd hroom hRl hn hx hxs hnR hp1 hp2 hn0 hBw
        go_wp2_with fail
        refine (unhide HN _).mono ?_
        rintro e w1 ⟨rfl, hw1⟩
        have hw2 := hw1.symm
        subst hw2
        clear hw1
        go_wp2_with fail
        refine (unhide HN _).mono ?_
        rintro e w1 ⟨rfl, hw1⟩
        have hw2 := hw1.symm
        subst hw2
        clear hw1
        go_wp2_with fail
        go_region_with (first
          | (go_at_call 29; refine (unhide HAL _).mono ?_; rintro e w1 ⟨rfl, hw1⟩; have hw2 := hw1.symm; subst hw2; clear hw1)
          | (go_at_call 28; refine (unhide HA _ (below_drew _ _)).mono ?_; rintro e w2 ⟨rfl, a2⟩))
        all_goals
          have HA2 := hide a2
          clear a2
          go_wp2
          go_roundw
          case rel => exact ⟨p2, hp2n, by go_num, HA2⟩
          case measure => simp [intOf]; omega
      · obtain ⟨fl, hfl⟩ : ∃ fl, flagW false k c = fl := ⟨_, rfl⟩
        have hfi := flag_is k c hk
        have hpe : ∀ T, thg (3 * ((ts.data.toList.drop (p + 1)).length + 1) + 3) (c :: ts.data.toList.drop (p + 1)) (if fl then 1 else 0) 0 = T → pieceS ts (p : Int) fl = pcOf ts.size T := fun T hT => by
          unfold pieceS
          rw [if_neg (by omega), Int.toNat_natCast, hd, thg_more (g := 3 * ((ts.data.toList.drop (p + 1)).length + 1) + 3) (by omega) (by omega), hT]
          cases T <;> rfl
        have HP := hide (fun W => rpiece_any ts (p : Int) fl W (by omega))
        clear hfi
        cases hT : thg (3 * ((ts.data.toList.drop (p + 1)).length + 1) + 3) (c :: ts.data.toList.drop (p + 1)) (if fl then 1 else 0) 0 with
        | err x m =>
          have hnz : NZ (.err x m) := by rw [← hT]; exact (c_nz _).2.2 _ _ _
          have hx : x ≠ 0 := hnz
          have hx1 : (x != 0) = true := by simpa using hx
          rw [hpe _ hT] at HP
          obtain ⟨z, hz⟩ : ∃ z : Nat, z = ts.size - m.length := ⟨_, rfl⟩
          simp only [pcOf, ← hz] at HP
          have HWd : Hid ((rdC false k ts.data.toList).word = .err x) := hide (by rw [h1, hd, rdC_err (thi_e hfl hT)]; rfl)
          clear h1 h2 hS hG hX1 hd hroom hRl hn hp1 hpe hT hnz hz HWW
          go_upto_region 4 with fail
          go_cut [30] from 19 to 30 (fun x wx => x = .bool false ∧ wx = wr)
          case first =>
            by_cases h36 : c = 36
            · have n0 : n = 0 := Classical.byContradiction fun e => hnm ⟨h36, e⟩
              have e36 : ((c.toNat : Int) == 36) = true := by rw [h36]; rfl
              rw [n0] at HN
              clear h36 n0
              go_wp2_with fail
              refine (unhide HN _).mono ?_
              rintro e w1 ⟨rfl, hw1⟩
              have hw2 := hw1.symm
              subst hw2
              clear hw1
              go_wp2
              go_meet
              exact ⟨rfl, rfl⟩
            · have e36 : ((c.toNat : Int) == 36) = false := byte_no (n := 36) (by omega) h36
              go_wp2
              go_meet
              exact ⟨rfl, rfl⟩
          case rest =>
            obtain ⟨rfl, hwc⟩ := hcut
            have hwc2 := hwc.symm
            subst hwc2
            clear hwc
            cases e34 : ((c.toNat : Int) == 34) with
            | false =>
              have hd2 : decide ((2 : Int) ≤ (k : Int)) = fl := by rw [← hfl, flag_is k c hk, show (c == 34) = false from (byte_is c 34 (by omega)).trans e34, Bool.false_and, if_neg (by decide)]; exact decide_eq_decide.2 (by omega)
              clear hfl
              go_wp2_with fail
              refine (unhide HP _).mono ?_
              rintro e w1 ⟨rfl, b1⟩
              have HB := hide (hBw.trans (b1.mono hBw.size))
              clear b1
              go_wp2
              go_ret2
              rw [unhide HWd]
              exact wend_err rfl hx (unhide HB)
            | true =>
              by_cases k5 : k = 5
              · have k5b : ((k : Int) != 5) = false := by rw [k5]; rfl
                have hd2 : decide ((2 : Int) ≤ (k : Int)) = fl := by rw [← hfl, flag_is k c hk, k5, show ((5 : Nat) != 5) = false from rfl, Bool.and_false, if_neg (by decide)]; rfl
                clear k5
                clear hfl
                go_wp2_with fail
                refine (unhide HP _).mono ?_
                rintro e w1 ⟨rfl, b1⟩
                have HB := hide (hBw.trans (b1.mono hBw.size))
                clear b1
                go_wp2
                go_ret2
                rw [unhide HWd]
                exact wend_err rfl hx (unhide HB)
              · have k5b : ((k : Int) != 5) = true := by rw [bne_iff_ne]; omega
                have hfl2 : false = fl := by rw [← hfl, flag_is k c hk, show (c == 34) = true from (byte_is c 34 (by omega)).trans e34, show (k != 5) = true from by rw [bne_iff_ne]; exact k5, Bool.and_true, if_pos rfl]
                subst hfl2
                clear k5
                clear hfl
                go_wp2_with fail
                refine (unhide HP _).mono ?_
                rintro e w1 ⟨rfl, b1⟩
                have HB := hide (hBw.trans (b1.mono hBw.size))
                clear b1
                go_wp2
                go_ret2
                rw [unhide HWd]
                exact wend_err rfl hx (unhide HB)
        | ok rest =>
          obtain ⟨u, hu⟩ := thi_split (F := 3 * ((ts.data.toList.drop (p + 1)).length + 1)) hT
          obtain ⟨en, hen⟩ : ∃ en : Nat, en = ts.size - rest.length := ⟨_, rfl⟩
          rw [hpe _ hT] at HP
          simp only [pcOf, ← hen] at HP
          have hul : u.length + rest.length = ts.size - (p + 1) := by rw [← hRl, hu, List.length_append]
          have hxl : (ts.extract p en).data.toList = c :: u := by
            have := extract_take ts p (u.length + 1)
            rw [show p + (u.length + 1) = en by omega] at this
            rw [this, BA_list, hd, hu, List.take_succ_cons, List.take_left']
            rfl
          have hxs : (ts.extract p en).size = u.length + 1 := by rw [← data_len, hxl]; rfl
          rw [hu] at hT
          have hnm2 : c = 36 → u = [] → nmdN rest = 0 := fun e1 e2 => by
            rw [hu, e2, List.nil_append] at hn
            exact Classical.byContradiction fun e => hnm ⟨e1, by rw [← hn]; exact e⟩
          have hthi : thiL false (rdC false) k c (ts.data.toList.drop (p + 1)) = thnL (rdC false) k c u rest := by rw [hu]; exact thi_o hfl hT
          obtain ⟨R, hR⟩ : ∃ R, thnL (rdC false) k c u rest = R := ⟨_, rfl⟩
          have HTH : Hid (∀ w1, Below wr.heap.size wr w1 → Calls Tryz.prog 31 #[.pointer (some ⟨w.heap.size, 0, none⟩), .string (ts.extract p en), .int .i64 (k : Int)] w1 fun e w' => RTEnd R w1 w.heap.size X1 (evs.foldl addP []) e w') := hide (fun w1 hb => by
            rw [← hR]
            exact rthing_any (unhide HWW) k (ts.extract p en) c u rest (if fl then 1 else 0) w1 w.heap.size X1 (evs.foldl addP []) hk (by split <;> decide) hxl hT hnm2 (by omega) (by omega) (hS.below hb) ⟨by have := hroom.1; omega, by have := hroom.2; omega⟩)
          have HERR : Hid (∀ x, R = .err x → (rdC false k ts.data.toList).word = .err x) := hide (fun x e => by rw [h1, hd, rdC_err (by rw [hthi, hR, e])]; rfl)
          have HXlo := hide (hS.lo)
          have HNX : Hid (∀ es rest', R = .ok es rest' → ∀ w1 w2, Below wr.heap.size wr w1 → RAdds w1 w.heap.size X1 (es.foldl addP (evs.foldl addP [])) 0 w2 → RInv k ts w en w2) := hide (fun es rest' e w1 w2 hb a => by
            have hr := thn_rest (hR.trans e) hnm2
            subst hr
            refine RInv.next h1 h2 hd (by rw [hthi, hR, e]) ?_ hen hlt (RAdds.trans (hG.trans (grownS_of_below hb)) hX1 a)
            rw [show en = (p + 1) + u.length by omega, ← List.drop_drop, hu, List.drop_left']
            rfl)
          have heni : (p : Int) ≤ (en : Int) := by omega
          have hens : (en : Int) ≤ (ts.size : Int) := by omega
          have henn : en ≤ ts.size := by omega
          have hpen : p < en := by omega
          clear h1 h2 hS hG hX1 hd hroom hRl hn hp1 hpe hT hu hen hul hxl hxs hnm2 hthi hR HWW
          go_upto_region 4 with fail
          go_cut [30] from 19 to 30 (fun x wx => x = .bool false ∧ wx = wr)
          case first =>
            by_cases h36 : c = 36
            · have n0 : n = 0 := Classical.byContradiction fun e => hnm ⟨h36, e⟩
              have e36 : ((c.toNat : Int) == 36) = true := by rw [h36]; rfl
              rw [n0] at HN
              clear h36 n0
              go_wp2_with fail
              refine (unhide HN _).mono ?_
              rintro e w1 ⟨rfl, hw1⟩
              have hw2 := hw1.symm
              subst hw2
              clear hw1
              go_wp2
              go_meet
              exact ⟨rfl, rfl⟩
            · have e36 : ((c.toNat : Int) == 36) = false := byte_no (n := 36) (by omega) h36
              go_wp2
              go_meet
              exact ⟨rfl, rfl⟩
          case rest =>
            obtain ⟨rfl, hwc⟩ := hcut
            have hwc2 := hwc.symm
            subst hwc2
            clear hwc
            cases e34 : ((c.toNat : Int) == 34) with
            | false =>
              have hd2 : decide ((2 : Int) ≤ (k : Int)) = fl := by rw [← hfl, flag_is k c hk, show (c == 34) = false from (byte_is c 34 (by omega)).trans e34, Bool.false_and, if_neg (by decide)]; exact decide_eq_decide.2 (by omega)
              clear hfl
              go_wp2_with fail
              refine (unhide HP _).mono ?_
              rintro e w1 ⟨rfl, b1⟩
              have HT2 := hide (unhide HTH w1 b1)
              have HB1 := hide b1
              clear b1
              go_wp2_with fail
              refine (unhide HT2).mono ?_
              clear HT2
              rintro e w2 h2e
              cases R with
              | err x =>
                obtain ⟨rfl, hx, a2⟩ := h2e
                obtain ⟨qs, a2⟩ := a2
                have c1 := a2.cell
                have hx1 : (x != 0) = true := by simpa using hx
                have HWd : Hid ((rdC false k ts.data.toList).word = .err x) := hide (unhide HERR x rfl)
                have HB : Hid (Below w.heap.size w w2) := hide (by
                  obtain ⟨X2, _, g2, _⟩ := a2
                  have hsz := (unhide HB1).size
                  exact (hBw.trans ((unhide HB1).mono hBw.size)).trans (g2.below (by omega) (fun k hk => unhide HXlo k hk)))
                have HX := hide hx
                clear a2 hx
                go_wp2_with fail
                go_quiet (fail)
                go_wp2
                go_ret2
                rw [unhide HWd]
                exact wend_err rfl (unhide HX) ((unhide HB).trans ((below_drew w2 _).mono (unhide HB).size))
              | ok es rest' =>
                obtain ⟨rfl, a2⟩ := h2e
                have c1 := a2.cell
                have HA2 := hide (unhide HNX es rest' rfl w1 w2 (unhide HB1) a2)
                clear a2
                go_wp2
                go_roundw
                case rel => exact ⟨en, henn, by go_num, HA2⟩
                case measure => simp [intOf]; omega
            | true =>
              by_cases k5 : k = 5
              · have k5b : ((k : Int) != 5) = false := by rw [k5]; rfl
                have hd2 : decide ((2 : Int) ≤ (k : Int)) = fl := by rw [← hfl, flag_is k c hk, k5, show ((5 : Nat) != 5) = false from rfl, Bool.and_false, if_neg (by decide)]; rfl
                clear k5
                clear hfl
                go_wp2_with fail
                refine (unhide HP _).mono ?_
                rintro e w1 ⟨rfl, b1⟩
                have HT2 := hide (unhide HTH w1 b1)
                have HB1 := hide b1
                clear b1
                go_wp2_with fail
                refine (unhide HT2).mono ?_
                clear HT2
                rintro e w2 h2e
                cases R with
                | err x =>
                  obtain ⟨rfl, hx, a2⟩ := h2e
                  obtain ⟨qs, a2⟩ := a2
                  have c1 := a2.cell
                  have hx1 : (x != 0) = true := by simpa using hx
                  have HWd : Hid ((rdC false k ts.data.toList).word = .err x) := hide (unhide HERR x rfl)
                  have HB : Hid (Below w.heap.size w w2) := hide (by
                    obtain ⟨X2, _, g2, _⟩ := a2
                    have hsz := (unhide HB1).size
                    exact (hBw.trans ((unhide HB1).mono hBw.size)).trans (g2.below (by omega) (fun k hk => unhide HXlo k hk)))
                  have HX := hide hx
                  clear a2 hx
                  go_wp2_with fail
                  go_quiet (fail)
                  go_wp2
                  go_ret2
                  rw [unhide HWd]
                  exact wend_err rfl (unhide HX) ((unhide HB).trans ((below_drew w2 _).mono (unhide HB).size))
                | ok es rest' =>
                  obtain ⟨rfl, a2⟩ := h2e
                  have c1 := a2.cell
                  have HA2 := hide (unhide HNX es rest' rfl w1 w2 (unhide HB1) a2)
                  clear a2
                  go_wp2
                  go_roundw
                  case rel => exact ⟨en, henn, by go_num, HA2⟩
                  case measure => simp [intOf]; omega
              · have k5b : ((k : Int) != 5) = true := by rw [bne_iff_ne]; omega
                have hfl2 : false = fl := by rw [← hfl, flag_is k c hk, show (c == 34) = true from (byte_is c 34 (by omega)).trans e34, show (k != 5) = true from by rw [bne_iff_ne]; exact k5, Bool.and_true, if_pos rfl]
                subst hfl2
                clear k5
                clear hfl
                go_wp2_with fail
                refine (unhide HP _).mono ?_
                rintro e w1 ⟨rfl, b1⟩
                have HT2 := hide (unhide HTH w1 b1)
                have HB1 := hide b1
                clear b1
                go_wp2_with fail
                refine (unhide HT2).mono ?_
                clear HT2
                rintro e w2 h2e
                cases R with
                | err x =>
                  obtain ⟨rfl, hx, a2⟩ := h2e
                  obtain ⟨qs, a2⟩ := a2
                  have c1 := a2.cell
                  have hx1 : (x != 0) = true := by simpa using hx
                  have HWd : Hid ((rdC false k ts.data.toList).word = .err x) := hide (unhide HERR x rfl)
                  have HB : Hid (Below w.heap.size w w2) := hide (by
                    obtain ⟨X2, _, g2, _⟩ := a2
                    have hsz := (unhide HB1).size
                    exact (hBw.trans ((unhide HB1).mono hBw.size)).trans (g2.below (by omega) (fun k hk => unhide HXlo k hk)))
                  have HX := hide hx
                  clear a2 hx
                  go_wp2_with fail
                  go_quiet (fail)
                  go_wp2
                  go_ret2
                  rw [unhide HWd]
                  exact wend_err rfl (unhide HX) ((unhide HB).trans ((below_drew w2 _).mono (unhide HB).size))
                | ok es rest' =>
                  obtain ⟨rfl, a2⟩ := h2e
                  have c1 := a2.cell
                  have HA2 := hide (unhide HNX es rest' rfl w1 w2 (unhide HB1) a2)
                  clear a2
                  go_wp2
                  go_roundw
                  case rel => exact ⟨en, henn, by go_num, HA2⟩
                  case measure => simp [intOf]; omega
    · have hpe : p = ts.size := by omega
      obtain ⟨evs, h1, h2, h3⟩ := unhide HI
      rw [List.drop_eq_nil_of_le (by rw [data_len]; omega), rdC_nil] at h1
      have hw : (rdC false k ts.data.toList).word = .ok (evs.foldl addP []) := by rw [h1]; simp [Rd.pre, Rd.word]
      have HWd := hide hw
      have hfo := fold_few evs []
      obtain ⟨ad, cap, c0, hB, hV⟩ := h3.word (by have h8 := hfo.1; have h9 := h2.1; rw [List.length_nil] at h8; omega)
      have HB := hide hB
      have HV := hide hV
      have hpi : ¬ (p : Int) < (ts.size : Int) := by omega
      clear h1 h2 h3 hw hfo hB hV HI hpe
      go_wp2
      go_ret2
      rw [unhide HWd]
      exact wend_ok rfl (unhide HB) (unhide HV)
end Go.Proofs.YtnamfjbfcbamjaaGreatDoor
namespace Go.Proofs.YtnamfjbfcbamjaaGreatDoor
open Go.RowKit
set_option maxRecDepth 20000 in
set_option maxHeartbeats 4000000 in
theorem rread_zero : RWordN 0 := by
  intro k l w hk hN hl
  have hl0 : l = [] := List.eq_nil_of_length_eq_zero (by omega)
  subst hl0
  have HB := hide ((Below.refl _ w).alloc (Nat.le_refl _) (.cells #[.slice none 0 0, .int .i64 0] 59))
  have hsz : ¬ (0 : Int) < ((BA []).size : Int) := by decide
  have HWd : Hid ((rdC false k []).word = .ok []) := hide (by rw [rdC_nil]; rfl)
  clear hk hN hl
  go_enter Tryz.func19, Tryz.ntmps19
  go_wp2_with fail
  go_loopw [7] (fun i wr => i = .int .i64 0 ∧ wr = w.alloc (.cells #[.slice none 0 0, .int .i64 0] 59)) (fun _ _ => 0)
  case atStart => exact ⟨rfl, rfl⟩
  case round =>
    obtain ⟨rfl, rfl⟩ := hrel
    go_wp2
    go_ret2
    rw [unhide HWd]
    exact wend_ok rfl (unhide HB) (wat_nil _ _ _ _)
theorem rread_all : ∀ N : Nat, RWordN N
  | 0 => rread_zero
  | N + 1 => rread_step (rread_all N)
set_option maxHeartbeats 4000000 in
theorem rparse_any (l : List UInt8) (w : World) (hl : l.length ≤ 100000) : Calls Tryz.prog 7 #[.string (BA l)] w fun e w' => ∃ v, e = .returned (.tuple #[v, .int .i64 (wrdL true 0 l).errno]) ∧ Below w.heap.size w w' ∧ WAt w' (fun k => w.heap.size ≤ k ∧ k < w'.heap.size) v (wrdL true 0 l).parts := by
  rw [← wrd_eq 0 l (by decide)]
  by_cases h : l.length ≤ 4096
  · have HW := hide ((rread_all l.length 0 l w (by decide) (Nat.le_refl _) h).mono (fun e w' h => ret_w h))
    rw [wrd_of h]
    have hi : ¬ (4096 : Int) < (l.length : Int) := by omega
    obtain ⟨R, hR⟩ : ∃ R, R = (rdC false 0 l).word := ⟨_, rfl⟩
    rw [← hR] at HW ⊢
    clear hR
    go_enter Tryz.func7, Tryz.ntmps7
    go_wp2_with fail
    refine (unhide HW).mono ?_
    rintro e w1 ⟨v, rfl, b1, hv⟩
    have HB := hide b1
    have HV := hide hv
    clear hv b1
    go_wp2
    go_ret2
    exact ⟨v, rfl, unhide HB, unhide HV⟩
  · have hi : (4096 : Int) < (l.length : Int) := by omega
    have hw : wrdL false 0 l = .err 3 := by unfold wrdL; rw [if_pos (by omega)]
    rw [hw]
    clear hw
    go_enter Tryz.func7, Tryz.ntmps7
    go_wp2
    go_ret2
    exact ⟨_, rfl, Below.refl _ _, wat_nil _ _ _ _⟩
set_option maxHeartbeats 4000000 in
theorem rhere_any (l : List UInt8) (w : World) (hl : l.length ≤ 100000) : Calls Tryz.prog 9 #[.string (BA l)] w fun e w' => ∃ v, e = .returned (.tuple #[v, .int .i64 (wrdL true 5 l).errno]) ∧ Below w.heap.size w w' ∧ WAt w' (fun k => w.heap.size ≤ k ∧ k < w'.heap.size) v (wrdL true 5 l).parts := by
  rw [← wrd_eq 5 l (by decide)]
  by_cases h : l.length ≤ 4096
  · have HW := hide ((rread_all l.length 5 l w (by decide) (Nat.le_refl _) h).mono (fun e w' h => ret_w h))
    rw [wrd_of h]
    have hi : ¬ (4096 : Int) < (l.length : Int) := by omega
    obtain ⟨R, hR⟩ : ∃ R, R = (rdC false 5 l).word := ⟨_, rfl⟩
    rw [← hR] at HW ⊢
    clear hR
    go_enter Tryz.func9, Tryz.ntmps9
    go_wp2_with fail
    refine (unhide HW).mono ?_
    rintro e w1 ⟨v, rfl, b1, hv⟩
    have HB := hide b1
    have HV := hide hv
    clear hv b1
    go_wp2
    go_ret2
    exact ⟨v, rfl, unhide HB, unhide HV⟩
  · have hi : (4096 : Int) < (l.length : Int) := by omega
    have hw : wrdL false 5 l = .err 3 := by unfold wrdL; rw [if_pos (by omega)]
    rw [hw]
    clear hw
    go_enter Tryz.func9, Tryz.ntmps9
    go_wp2
    go_ret2
    exact ⟨_, rfl, Below.refl _ _, wat_nil _ _ _ _⟩
end Go.Proofs.YtnamfjbfcbamjaaGreatDoor

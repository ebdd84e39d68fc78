/-
  The document's reader: thing, of any thing.
  Things, plainly: more steps than are needed change nothing; a $ with a name.
  The document's reader at the start and at the end.
-/
import Derived.Test.YtnamfjbfcbamjaaGreatDoorM18
import Derived.Test.YtnamfjbfcbamjaaGreatDoorM19

/- The document's reader: thing, of any thing. -/
namespace Go.Proofs.YtnamfjbfcbamjaaGreatDoor
open Go.RowKit

theorem thg_36h {f : Nat} {u rest : List UInt8} {wh d : Nat} (h : thg (f + 1) (36 :: (u ++ rest)) wh d = .ok rest) (hu : 2 ≤ u.length) : u.head? = some 123 ∨ u.head? = some 40 := by
  rw [thg_succ, if_neg (by decide), if_neg (by decide), if_neg (by decide), if_pos rfl] at h
  have hh : (u ++ rest).head? = u.head? := by cases u with
    | nil => simp at hu
    | cons _ _ => rfl
  rw [hh] at h
  split at h
  · next e => exact .inl e
  split at h
  · next e => exact .inr e
  · injection h with h
    have := congrArg List.length h
    simp at this
    rw [this] at hu
    simp at hu
theorem thg_one {f : Nat} {c : UInt8} {u rest : List UInt8} {wh d : Nat} (h : thg (f + 1) (c :: (u ++ rest)) wh d = .ok rest) (hwh : wh ≤ 1) (h92 : c ≠ 92) (h34 : c ≠ 34) (h39 : c ≠ 39) (h36 : c ≠ 36) : u = [] := by
  rw [thg_succ, if_neg h92, if_neg h34, if_neg h39, if_neg h36] at h
  have key : Rs.ok (u ++ rest) = .ok rest → u = [] := fun e => by
    injection e with e
    have := congrArg List.length e
    simp at this
    exact this
  split at h
  · rw [if_neg (by omega)] at h
    exact key h
  split at h
  · cases h
  · exact key h

theorem rthing_any {N : Nat} (hW : RWordN N) (k : Nat) (ts : ByteArray) (c : UInt8) (u rest : List UInt8) (wh : Nat) (w : World) (b : Nat) (X : Nat → Prop) (ps : List Prt) (hk : k < 6) (hwh : wh ≤ 1) (hts : ts.data.toList = c :: u) (hT : thg (3 * ((u ++ rest).length + 1) + 3) (c :: (u ++ rest)) wh 0 = .ok rest) (hnm : c = 36 → u = [] → nmdN rest = 0) (hN : ts.size ≤ N + 2) (hs : ts.size ≤ 4096) (h : RWt w b X ps 0) (hr : Room ps (2 * ts.size + 4)) :
    Calls Tryz.prog 31 #[.pointer (some ⟨b, 0, none⟩), .string ts, .int .i64 (k : Int)] w fun e w' => RTEnd (thnL (rdC false) k c u rest) w b X ps e w' := by
  by_cases h92 : c = 92
  · subst h92
    have : thnL (rdC false) k 92 u rest = .ok (pairL k u) rest := by unfold thnL; rw [if_pos rfl]
    rw [this]
    exact rth_92 k ts u rest w b X ps hk hts (by
      have := congrArg List.length (thg_92 hT)
      simp at this
      omega) h hr
  have b92 : ((c.toNat : Int) == 92) = false := byte_no (n := 92) (by omega) h92
  by_cases h39 : c = 39 ∧ u ≠ []
  · obtain ⟨rfl, hu⟩ := h39
    have : thnL (rdC false) k 39 u rest = .ok [litP u.dropLast true] rest := by unfold thnL; rw [if_neg h92, if_pos ⟨rfl, hu⟩]
    rw [this]
    exact rth_39 k ts u rest w b X ps hts hu hs h hr
  by_cases h34 : c = 34 ∧ u ≠ []
  · obtain ⟨rfl, hu⟩ := h34
    have : thnL (rdC false) k 34 u rest = dqTh rest (rdC false 2 u.dropLast).word := by
      unfold thnL
      rw [if_neg h92, if_neg h39, if_pos ⟨rfl, hu⟩]
      cases (rdC false 2 u.dropLast).word <;> simp only [dqTh]
    rw [this]
    exact rth_34 hW k ts u rest w b X ps hts hu hN hs h hr
  by_cases h36s : c = 36 ∧ u = []
  · obtain ⟨rfl, rfl⟩ := h36s
    have hz := hnm rfl rfl
    have : thnL (rdC false) k 36 [] rest = .ok [litP [36] true] rest := by
      unfold thnL
      rw [if_neg h92, if_neg h39, if_neg h34, if_pos ⟨rfl, rfl⟩, if_pos hz]
    rw [this]
    exact rth_one k ts 36 rest w b X ps true hk hts b92 (fun _ => by decide) (by cases allW k <;> rfl) h hr
  by_cases h36 : c = 36
  · subst h36
    have hu : u ≠ [] := fun e => h36s ⟨rfl, e⟩
    have : thnL (rdC false) k 36 u rest = lgTh k rest (lngL (rdC false) k u) := by
      unfold thnL
      rw [if_neg h92, if_neg h39, if_neg h34, if_neg h36s, if_pos rfl]
      cases lngL (rdC false) k u <;> simp only [lgTh]
    rw [this]
    have h2 := thg_36 hT hu
    rcases thg_36h (f := 3 * ((u ++ rest).length + 1) + 2) hT h2 with e | e
    · exact rth_brace hW k ts u rest w b X ps hk hts h2 e hN hs h hr
    · exact rth_run k ts u rest w b X ps hk hts h2 e hs h hr
  have hu : u = [] := by
    by_cases e39 : c = 39
    · exact Classical.byContradiction fun e => h39 ⟨e39, e⟩
    by_cases e34 : c = 34
    · exact Classical.byContradiction fun e => h34 ⟨e34, e⟩
    exact thg_one (f := 3 * ((u ++ rest).length + 1) + 2) hT hwh h92 e34 e39 h36
  subst hu
  have b36 : ((c.toNat : Int) == 36) = false := byte_no (n := 36) (by omega) h36
  have h0 : thnL (rdC false) k c [] rest = if k = 0 ∧ metB (c.toNat : Int) = true then .err 10 else .ok [litP [c] (allW k)] rest := by
    unfold thnL
    rw [if_neg h92, if_neg h39, if_neg h34, if_neg h36s, if_neg h36]
  rw [h0]
  by_cases hm : k = 0 ∧ metB (c.toNat : Int) = true
  · obtain ⟨rfl, hm⟩ := hm
    rw [if_pos ⟨rfl, hm⟩]
    exact rth_meta ts c w b X ps hts b92 hm h
  · rw [if_neg hm]
    exact rth_one k ts c rest w b X ps (allW k) hk hts b92 (fun e => by
      cases hmm : metB (c.toNat : Int) with
      | true => exact absurd ⟨e, hmm⟩ hm
      | false => rfl) (by rw [b36, Bool.or_false]) h hr

end Go.Proofs.YtnamfjbfcbamjaaGreatDoor

/- Things, plainly: more steps than are needed change nothing; a $ with a name. -/
namespace Go.Proofs.YtnamfjbfcbamjaaGreatDoor

theorem more_all : ∀ f : Nat, (∀ c r wh d g, 3 * (r.length + 1) + 3 ≤ f → 3 * (r.length + 1) + 3 ≤ g → thg f (c :: r) wh d = thg g (c :: r) wh d) ∧ (∀ l fr e wh d g, 3 * l.length + 5 ≤ f → 3 * l.length + 5 ≤ g → cls f l fr e wh d = cls g l fr e wh d) ∧ (∀ l fr e wh d g, 3 * l.length + 4 ≤ f → 3 * l.length + 4 ≤ g → lop f l fr e wh d = lop g l fr e wh d)
  | 0 => ⟨fun _ _ _ _ _ h _ => by omega, fun _ _ _ _ _ _ h _ => by omega, fun _ _ _ _ _ _ h _ => by omega⟩
  | f + 1 => by
    obtain ⟨iT, iC, iL⟩ := more_all f
    refine ⟨fun c r wh d g hf hg => ?_, fun l fr e wh d g hf hg => ?_, fun l fr e wh d g hf hg => ?_⟩
    · obtain ⟨g, rfl⟩ : ∃ g', g = g' + 1 := ⟨g - 1, by omega⟩
      have hd : (r.drop 1).length ≤ r.length := by rw [List.length_drop]; omega
      rw [thg_succ, thg_succ, iC r (c :: r) 34 1 d g (by omega) (by omega), iC (r.drop 1) (c :: r) 125 (if quot wh then 3 else 2) d g (by omega) (by omega), iC (r.drop 1) r 41 4 d g (by omega) (by omega), iC r (c :: r) 41 4 d g (by omega) (by omega)]
    · obtain ⟨g, rfl⟩ : ∃ g', g = g' + 1 := ⟨g - 1, by omega⟩
      rw [cls_succ, cls_succ, iL l fr e wh (d + 1) g (by omega) (by omega)]
    · obtain ⟨g, rfl⟩ : ∃ g', g = g' + 1 := ⟨g - 1, by omega⟩
      cases l with
      | nil => rw [lop_nil, lop_nil]
      | cons c r =>
        simp only [List.length_cons] at hf hg
        rw [lop_succ, lop_succ, iT c r wh d g (by omega) (by omega)]
        cases hT : thg g (c :: r) wh d with
        | err x m => rfl
        | ok l' =>
          have hl : l'.length ≤ r.length := by
            obtain ⟨g, rfl⟩ : ∃ g', g = g' + 1 := ⟨g - 1, by omega⟩
            exact thg_lt hT
          simp only
          rw [iL l' fr e wh d g (by omega) (by omega)]
theorem thg_more {f g : Nat} {c : UInt8} {r : List UInt8} {wh d : Nat} (hf : 3 * (r.length + 1) + 3 ≤ f) (hg : 3 * (r.length + 1) + 3 ≤ g) : thg f (c :: r) wh d = thg g (c :: r) wh d := (more_all f).1 c r wh d g hf hg
theorem nmd_head {c : UInt8} {r : List UInt8} (h : nmdN (c :: r) ≠ 0) : c ≠ 123 ∧ c ≠ 40 := by
  constructor
  · rintro rfl
    apply h
    have h1 : frontN (123 :: r) = 0 := by
      unfold frontN
      rfl
    unfold nmdN
    rw [h1]
    rfl
  · rintro rfl
    apply h
    have h1 : frontN (40 :: r) = 0 := by
      unfold frontN
      rfl
    unfold nmdN
    rw [h1]
    rfl
theorem thg_nmd {f : Nat} {r : List UInt8} {wh d : Nat} (h : nmdN r ≠ 0) : thg (f + 1) (36 :: r) wh d = .ok r := by
  rw [thg_succ, if_neg (by decide), if_neg (by decide), if_neg (by decide), if_pos rfl]
  cases r with
  | nil => exact absurd rfl h
  | cons c r =>
    obtain ⟨h1, h2⟩ := nmd_head h
    rw [if_neg (by simpa using h1), if_neg (by simpa using h2)]
theorem thi_nmd {rd : Nat → List UInt8 → Rd} {k : Nat} {r : List UInt8} (h : nmdN r ≠ 0) : thiL false rd k 36 r = .ok [.mk 2 (r.take (nmdN r)) (allW k) 0 false []] (r.drop (nmdN r)) := by
  unfold thiL
  rw [thg_nmd h]
  simp only [Nat.sub_self, List.take_zero]
  unfold thnL
  rw [if_neg (by decide), if_neg (by simp), if_neg (by simp), if_pos ⟨rfl, rfl⟩, if_neg h]
theorem flag_is (k : Nat) (c : UInt8) (hk : k < 6) : flagW false k c = if (c == 34) && (k != 5) then false else decide (2 ≤ k) := by
  have : k = 0 ∨ k = 1 ∨ k = 2 ∨ k = 3 ∨ k = 4 ∨ k = 5 := by omega
  unfold flagW
  rcases this with rfl | rfl | rfl | rfl | rfl | rfl <;> cases (c == 34) <;> rfl

end Go.Proofs.YtnamfjbfcbamjaaGreatDoor

/- The document's reader at the start and at the end. -/
namespace Go.Proofs.YtnamfjbfcbamjaaGreatDoor
open Go.RowKit

theorem RWg.pshape {w : World} {b : Nat} {X : Nat → Prop} {L : List (Prt × Value)} {pv : Value} {er : Int} (h : RWg w b X L pv er) :
    ∃ ad cap, pv = .slice ad L.length cap ∧ ∀ (i : Nat) (x : Prt × Value), L[i]? = some x → ∃ g, ad = some ⟨g, 0, none⟩ ∧ g < w.heap.size ∧ b < g ∧ ∀ j u, (pcs x)[j]? = some u → j < 6 → w.cell? ⟨g, i * 6 + j, none⟩ = some u := by
  obtain ⟨h1, ⟨hv, h0⟩ | ⟨g, cap, cur, hv, hb, hg, _, _, _, htk⟩⟩ := h.row
  · refine ⟨none, 0, by rw [hv, h0], fun i x hi => ?_⟩
    have := (List.getElem?_eq_some_iff.1 hi).1
    omega
  · refine ⟨_, cap, hv, fun i x hi => ⟨g, rfl, (Array.getElem?_eq_some_iff.1 hg).1, by omega, fun j u hu hj => ?_⟩⟩
    have hil := (List.getElem?_eq_some_iff.1 hi).1
    have hp := flatP_get L i j x hi hj
    rw [hu, ← htk, List.getElem?_take, if_pos (by omega)] at hp
    exact Blk.cell (show Blk w g 37 cur from hg) (i * 6 + j) (by simpa using hp)
theorem RWg.wat {w : World} {b : Nat} {X : Nat → Prop} {L : List (Prt × Value)} {pv : Value} {er : Int} (h : RWg w b X L pv er) (hl : L.length ≤ 100000) : WAt w (fun k => b ≤ k ∧ k < w.heap.size) pv (L.map Prod.fst) := by
  obtain ⟨ad, cap, hv, hsh⟩ := h.pshape
  refine ⟨ad, cap, by rw [hv, List.length_map], by rw [List.length_map]; omega, ?_⟩
  by_cases hL : L = []
  · exact .inl (by rw [hL]; rfl)
  · have hpos := List.length_pos_iff.2 hL
    obtain ⟨g, hg, hgl, hbg, _⟩ := hsh 0 L[0] (List.getElem?_eq_getElem hpos)
    refine .inr ⟨g, 0, hg, ⟨by omega, hgl⟩, PsAt.of (fun i p hi => ?_)⟩
    rw [List.getElem?_map, Option.map_eq_some_iff] at hi
    obtain ⟨x, hx, rfl⟩ := hi
    obtain ⟨g', hg', _, _, hc⟩ := hsh i x hx
    have : g' = g := by rw [hg] at hg'; simpa using hg'.symm
    subst this
    obtain ⟨⟨k, t, q, o, c, s⟩, u⟩ := x
    rw [Nat.zero_add]
    refine (PAt_mk ..).2 ⟨hc 0 _ rfl (by decide), hc 1 _ rfl (by decide), hc 2 _ rfl (by decide), hc 3 _ rfl (by decide), hc 4 _ rfl (by decide), u, hc 5 _ rfl (by decide), ?_⟩
    exact (h.sub _ (List.mem_of_getElem? hx)).kept (fun _ _ => rfl) (fun k hk => ⟨by have := hk.1; omega, hk.2.1⟩)
theorem rwt_new (w : World) : RWt (w.alloc (.cells #[.slice none 0 0, .int .i64 0] 59)) w.heap.size (fun k => k = w.heap.size) [] 0 :=
  ⟨[], .slice none 0 0, ⟨Blk.new w _ _, World.ownsRow_nil _ _ _ _, by simp, rfl, by simp [Value.ownBlock], fun k e => by omega, fun k e => by simp; omega⟩, rfl⟩
/-- What the reader holds at last, as a word. -/
theorem RAdds.word {w wr : World} {ps : List Prt} {o : Obj} (h : RAdds (w.alloc o) w.heap.size (fun k => k = w.heap.size) ps 0 wr) (hl : ps.length ≤ 100000) : ∃ ad cap, wr.cell? ⟨w.heap.size, 0, none⟩ = some (.slice ad ps.length cap) ∧ Below w.heap.size w wr ∧ WAt wr (fun k => w.heap.size ≤ k ∧ k < wr.heap.size) (.slice ad ps.length cap) ps := by
  obtain ⟨X', ⟨L, pv, hL, rfl⟩, hg, _⟩ := h
  rw [List.length_map] at hl
  have hw := hL.wat hl
  obtain ⟨ad, cap, hpv, _⟩ := hL.pshape
  have c0 : wr.cell? ⟨w.heap.size, 0, none⟩ = some pv := hL.blk.cell 0 rfl
  rw [hpv] at c0 hw
  refine ⟨ad, cap, by rw [List.length_map]; exact c0, ?_, by rw [List.length_map]; exact hw⟩
  exact ((Below.refl _ w).alloc (Nat.le_refl _) o).trans (hg.below (by simp) (fun k e => by omega))

end Go.Proofs.YtnamfjbfcbamjaaGreatDoor

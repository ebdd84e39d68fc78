/-
  Directories (stage 13): forget: what a directory had is dropped once it is no more; what stood in it stands nowhere.
  Directories (stage 13): forget.
-/
import Derived.Test.YtemologkibcdoaaM21

/- Directories (stage 13): forget: what a directory had is dropped once it is no more; what stood in it stands nowhere. -/
namespace Go.Proofs.Ytemologkibcdoaa
open Go.RowKit Go.Maps Go.Sort

/-- Which directories have an entry behind forget. -/
def keepD (T : TB) (i : Int) (D : Int → Prop) : Int → Prop := fun k => D k ∧ (kdI T i ≠ 2 → k ≠ i)
theorem NdG.same {w : World} {q t dm : Nat} {M : Int → Nat} {X : Nat → Prop} {T : TB} {L : List Nm} {par : Int → Int} {D D' : Int → Prop} {nb : Nat} (H : NdG w q t dm M X T L par D nb) (h : ∀ k, D k ↔ D' k) : NdG w q t dm M X T L par D' nb := by
  have : D = D' := funext (fun k => propext (h k))
  rw [← this]
  exact H
theorem GAt.same {w : World} {q nb : Nat} {Y : Nat → Prop} {T : TB} {L : List Nm} {par : Int → Int} {D D' : Int → Prop} (H : GAt w q Y T L par D nb) (h : ∀ k, D k ↔ D' k) : GAt w q Y T L par D' nb := by
  have : D = D' := funext (fun k => propext (h k))
  rw [← this]
  exact H
theorem GAt.par {w : World} {q nb : Nat} {Y : Nat → Prop} {T : TB} {L : List Nm} {par par' : Int → Int} {D : Int → Prop} (H : GAt w q Y T L par D nb) (h : ∀ d, D d → par' d = par d) : GAt w q Y T L par' D nb := by
  obtain ⟨t, dm, M, X, h1, h2⟩ := H
  obtain ⟨V, v1, v2, v3⟩ := h1.dirs
  exact ⟨t, dm, M, X, ⟨h1.nds, h1.tab, h1.lt, h1.noq, h1.nod, ⟨V, v1, fun d hd z => by rw [h d hd]; exact v2 d hd z, v3⟩, h1.each, h1.inj, h1.rng⟩, h2⟩
theorem GAt.mono {w : World} {q nb : Nat} {Y Z : Nat → Prop} {T : TB} {L : List Nm} {par : Int → Int} {D : Int → Prop} (H : GAt w q Y T L par D nb) (h : ∀ k, k < w.heap.size → Y k → Z k) : GAt w q Z T L par D nb := by
  obtain ⟨t, dm, M, X, h1, h2⟩ := H
  exact ⟨t, dm, M, X, h1, (h1.lts.and h2).mono (fun k hk => h k hk.1 hk.2)⟩
theorem zero_ne (p : Int) (m : Nat) : zeroDir ≠ dirV p m := by
  intro e
  unfold zeroDir dirV at e
  injection e with e3
  have e4 : ([Value.int .i64 0, Value.map none] : List Value) = [Value.int .i64 p, Value.map (some m)] := congrArg Array.toList e3
  injection e4 with _ e5
  injection e5 with e6
  injection e6 with e7
  cases e7
/-- n.dirs[d], with whether there is an entry. -/
theorem NdG.lookB {w : World} {q t dm : Nat} {M : Int → Nat} {X : Nat → Prop} {T : TB} {L : List Nm} {par : Int → Int} {D : Int → Prop} {nb : Nat} (H : NdG w q t dm M X T L par D nb) (d : Int) (hb : -9223372036854775808 ≤ d ∧ d ≤ 9223372036854775807) : ∃ (p : Int) (m : Option Nat) (b : Bool), (Instr.lookup 99 (.map (some dm)) (.int .i64 d) true).run Try.prog w = .ok (.tuple #[.agg #[.int .i64 p, .map m], .bool b]) w ∧ (b = true → D d) ∧ (D d → b = true) := by
  obtain ⟨V, h1, h2, h3⟩ := H.dirs
  obtain ⟨v, ps, h4, h5⟩ := h1.look_ok lawI und_dirs (zero_dir w) (zd := .held zeroDir) (zp := []) rfl (keyI (wf64 hb))
  have hv : V.atKey (.int .i64 d) (.held zeroDir) = .held v := (Prod.mk.inj (Option.some.inj h5)).1.symm
  have hkey : ∃ (p : Int) (m : Option Nat), v = .agg #[.int .i64 p, .map m] := by
    cases hh : has V (.int .i64 d) with
    | false =>
      rw [atKey_of_not_has hh] at hv
      exact ⟨0, none, (DataW.held.inj hv).symm⟩
    | true =>
      haveI := Classical.propDecidable (D d)
      by_cases hd : D d
      · rw [h2 d hd] at hv
        exact ⟨_, _, (DataW.held.inj hv).symm⟩
      · rw [h3 d hd] at hh; cases hh
  obtain ⟨p, m, rfl⟩ := hkey
  refine ⟨p, m, _, h4, fun hh => ?_, fun hd => ?_⟩
  · haveI := Classical.propDecidable (D d)
    by_cases hd : D d
    · exact hd
    · rw [h3 d hd] at hh; cases hh
  · cases hh : has V (.int .i64 d) with
    | true => rfl
    | false =>
      have e1 := h2 d hd (.held zeroDir)
      rw [atKey_of_not_has hh] at e1
      exact absurd (DataW.held.inj e1) (zero_ne _ _)
/-- The keys of the map of directories. -/
theorem NdG.keys {w : World} {q t dm : Nat} {M : Int → Nat} {X : Nat → Prop} {T : TB} {L : List Nm} {par : Int → Int} {D : Int → Prop} {nb : Nat} (H : NdG w q t dm M X T L par D nb) : ∃ V, MapV w 3 dm V ∧ Maps.size V ≤ 1024 ∧ ∀ x, x ∈ intKeys V ↔ D x := by
  obtain ⟨V, h1, h2, h3⟩ := H.dirs
  refine ⟨V, h1, dirs_size h1 (fun c hc => h3 c (fun h => hc (H.rng c h))), fun x => ?_⟩
  obtain ⟨es, rfl, hk⟩ := World.ownsMap.keysOf h1
  have hm : x ∈ intKeys (.map es) ↔ has (.map es) (.int .i64 x) = true := by
    rw [has_eq, List.any_eq_true]
    constructor
    · intro hx
      obtain ⟨p, hp, rfl⟩ := List.mem_map.1 hx
      obtain ⟨v, hv⟩ := hk p hp
      obtain ⟨y, _, hy, _⟩ := keyOf_int_inv Try.underlying3 hv
      refine ⟨p, hp, ?_⟩
      rw [hy]
      simp [Lit.sameKey, Go.intOf]
    · rintro ⟨p, hp, e⟩
      obtain ⟨v, hv⟩ := hk p hp
      obtain ⟨y, _, hy, _⟩ := keyOf_int_inv Try.underlying3 hv
      refine List.mem_map.2 ⟨p, hp, ?_⟩
      rw [hy] at e ⊢
      simp [Lit.sameKey] at e
      show y = x
      omega
  rw [hm]
  haveI := Classical.propDecidable (D x)
  constructor
  · intro hh
    by_cases hd : D x
    · exact hd
    · rw [h3 x hd] at hh; cases hh
  · intro hd
    cases hh : has (.map es) (.int .i64 x) with
    | true => rfl
    | false =>
      have e1 := h2 x hd (.held zeroDir)
      rw [atKey_of_not_has hh] at e1
      exact absurd (DataW.held.inj e1) (zero_ne _ _)
/-- The slice v holds these numbers. -/
def ZRow (w : World) (v : Value) (l : List Int) : Prop := (v = .slice none 0 0 ∧ l = []) ∨ ∃ (g cap : Nat) (cs : Array Value), v = .slice (some ⟨g, 0, none⟩) l.length cap ∧ l.length ≤ cap ∧ cap ≤ maxLen ∧ w.heap[g]? = some (.cells cs 3 (0, 0)) ∧ cap ≤ cs.size ∧ ∀ (i : Nat) (x : Int), l[i]? = some x → cs[i]? = some (.int .i64 x)
theorem ZRow.of {w : World} {base n : Nat} {v : Value} {l : List Int} (h : w.ownsRow base 3 1 v n (l.map fun x => .int .i64 x)) (hn : n = l.length) : ZRow w v l ∧ ∀ k, v.ownBlock = some k → base ≤ k := by
  subst hn
  obtain ⟨h0, ⟨rfl, h1⟩ | ⟨g, cap, cur, rfl, hb, hg, hle, hm, hsz, htk⟩⟩ := h
  · exact ⟨.inl ⟨rfl, List.eq_nil_of_length_eq_zero h1⟩, fun k hk => by cases hk⟩
  · refine ⟨.inr ⟨g, cap, cur, rfl, hle, hm, hg, by omega, fun i x hi => ?_⟩, fun k hk => ?_⟩
    · have hil := (List.getElem?_eq_some_iff.1 hi).1
      have e1 : (cur.toList.take (l.length * 1))[i]? = some (.int .i64 x) := by rw [htk, List.getElem?_map, hi]; rfl
      rw [List.getElem?_take, if_pos (by omega)] at e1
      simpa using e1
    · injection hk with hk
      subst hk
      exact hb
theorem ZRow.grownS {w w' : World} {v : Value} {l : List Int} {S : Nat → Prop} (h : ZRow w v l) (hg : GrownS w w' S) (hv : ∀ k, v.ownBlock = some k → ¬ S k) : ZRow w' v l := by
  rcases h with h | ⟨g, cap, cs, rfl, h1, h2, h3, h4⟩
  · exact .inl h
  · exact .inr ⟨g, cap, cs, rfl, h1, h2, (hg.block g (Array.getElem?_eq_some_iff.1 h3).1 (hv g rfl)).trans h3, h4⟩
theorem ZRow.len {w : World} {v : Value} {l : List Int} (h : ZRow w v l) : ∃ ad cap, v = .slice ad l.length cap ∧ l.length ≤ cap ∧ cap ≤ maxLen := by
  rcases h with ⟨rfl, rfl⟩ | ⟨g, cap, cs, rfl, h1, h2, _⟩
  · exact ⟨none, 0, rfl, by simp, Nat.zero_le _⟩
  · exact ⟨_, cap, rfl, h1, h2⟩
theorem ZRow.at {w : World} {ad : Option Addr} {n cap : Nat} {l : List Int} (h : ZRow w (.slice ad n cap) l) {i : Nat} {x : Int} (hi : l[i]? = some x) : ∃ g, ad = some ⟨g, 0, none⟩ ∧ w.cell? ⟨g, i, none⟩ = some (.int .i64 x) := by
  rcases h with ⟨_, rfl⟩ | ⟨g', cap', cs, h, _, _, hg, _, hc⟩
  · simp at hi
  · injection h with h1 h2 h3
    subst h1
    exact ⟨g', rfl, by simp [World.cell?, hg, hc i x hi]⟩
end Go.Proofs.Ytemologkibcdoaa

/- Directories (stage 13): forget. -/
namespace Go.Proofs.Ytemologkibcdoaa
open Go.RowKit Go.Maps Go.Sort

/-- The parents when the first of the keys were gone through. -/
def parJ (par : Int → Int) (i : Int) (l : List Int) (j : Nat) : Int → Int := fun k => if k ∈ l.take j ∧ par k = i then 0 else par k
theorem parJ_zero (par : Int → Int) (i : Int) (l : List Int) : parJ par i l 0 = par := funext (fun k => by unfold parJ; simp)
theorem parJ_yes {par : Int → Int} {i : Int} {l : List Int} {j : Nat} {c : Int} (hc : l[j]? = some c) (h : parJ par i l j c = i) : parU (parJ par i l j) c 0 = parJ par i l (j + 1) := by
  have hm : ∀ k, k ∈ l.take (j + 1) ↔ k ∈ l.take j ∨ k = c := fun k => by rw [List.take_add_one, hc]; simp
  funext k
  unfold parU
  by_cases e : k = c
  · subst e
    rw [if_pos rfl]
    unfold parJ at h ⊢
    by_cases h1 : k ∈ l.take j ∧ par k = i
    · rw [if_pos ⟨(hm k).2 (.inl h1.1), h1.2⟩]
    · rw [if_neg h1] at h
      rw [if_pos ⟨(hm k).2 (.inr rfl), h⟩]
  · rw [if_neg e]
    unfold parJ
    by_cases h1 : k ∈ l.take j ∧ par k = i
    · rw [if_pos h1, if_pos ⟨(hm k).2 (.inl h1.1), h1.2⟩]
    · rw [if_neg h1, if_neg (fun h2 => h1 ⟨((hm k).1 h2.1).resolve_right e, h2.2⟩)]
theorem parJ_no {par : Int → Int} {i : Int} {l : List Int} {j : Nat} {c : Int} (hc : l[j]? = some c) (h : parJ par i l j c ≠ i) : parJ par i l j = parJ par i l (j + 1) := by
  have hm : ∀ k, k ∈ l.take (j + 1) ↔ k ∈ l.take j ∨ k = c := fun k => by rw [List.take_add_one, hc]; simp
  funext k
  by_cases e : k = c
  · subst e
    unfold parJ at h ⊢
    by_cases h1 : k ∈ l.take j ∧ par k = i
    · rw [if_pos h1, if_pos ⟨(hm k).2 (.inl h1.1), h1.2⟩]
    · rw [if_neg h1] at h ⊢
      rw [if_neg (fun h2 => h h2.2)]
  · unfold parJ
    by_cases h1 : k ∈ l.take j ∧ par k = i
    · rw [if_pos h1, if_pos ⟨(hm k).2 (.inl h1.1), h1.2⟩]
    · rw [if_neg h1, if_neg (fun h2 => h1 ⟨((hm k).1 h2.1).resolve_right e, h2.2⟩)]
/-- While the keys are gone through. -/
structure Fgt (w3 wr : World) (q : Nat) (Z : Nat → Prop) (T : TB) (L : List Nm) (par : Int → Int) (i : Int) (D : Int → Prop) (nb : Nat) (v : Value) (l : List Int) (j : Nat) : Prop where
  at' : GAt wr q Z T L (parJ par i l j) D nb
  gr : GrownS w3 wr Z
  row : ZRow wr v l
theorem GAt.look {w : World} {q nb : Nat} {Y : Nat → Prop} {T : TB} {L : List Nm} {par : Int → Int} {D : Int → Prop} (H : GAt w q Y T L par D nb) {c : Int} (hc : D c) : ∃ (dm : Nat) (m : Option Nat), w.cell? ⟨q, 1, none⟩ = some (.map (some dm)) ∧ ∀ k, (Instr.lookup 99 (.map (some dm)) (.int .i64 c) false).run Try.prog (w.drewN k) = .ok (.agg #[.int .i64 (par c), .map m]) (w.drewN k) := by
  obtain ⟨t, dm, M, X, HL, HY⟩ := H
  have hr := HL.rng c hc
  exact ⟨dm, some (M c), HL.nds.cell 1 rfl, fun k => (HL.bel (below_drew w k)).look hc (by omega)⟩
theorem forg_no {T : TB} {par : Int → Int} {i : Int} {D : Int → Prop} (hup : ∀ k, D k → par k = i → i = 0 ∨ D i) (h : ¬ D i ∨ kdI T i = 2) (d : Int) (hd : D d) : forgP T i par d = par d := by
  unfold forgP
  by_cases hc : kindOf (ndAt T i) ≠ 2 ∧ par d = i
  · rw [if_pos hc]
    rcases h with h | h
    · rw [hc.2]
      exact ((hup d hd hc.2).resolve_right h).symm
    · exact absurd h hc.1
  · rw [if_neg hc]
theorem keep_no {T : TB} {i : Int} {D : Int → Prop} (h : ¬ D i ∨ kdI T i = 2) (k : Int) : D k ↔ keepD T i D k := by
  refine ⟨fun hk => ⟨hk, fun h2 e => ?_⟩, fun hk => hk.1⟩
  rcases h with h | h
  · exact h (by rw [← e]; exact hk)
  · exact h2 h
end Go.Proofs.Ytemologkibcdoaa

/-
  Directories (stage 13): forget: what a directory had is dropped once it is no more; what stood in it stands nowhere.
  Directories (stage 13): forget.
-/
import Derived.Test.YtemologkibcdoaaGreatDoorM21

/- Directories (stage 13): forget: what a directory had is dropped once it is no more; what stood in it stands nowhere. -/
namespace Go.Proofs.YtemologkibcdoaaGreatDoor
open Go.RowKit Go.Maps Go.Sort

/-- Which directories have an entry behind forget. -/
def keepD (T : TB) (i : Int) (D : Int → Prop) : Int → Prop := fun k => D k ∧ (kdI T i ≠ 2 → k ≠ i)
theorem NdG.same {w : World} {q t dm : Nat} {M : Int → Nat} {X : Nat → Prop} {T : TB} {L : List Nm} {par : Int → Int} {D D' : Int → Prop} {nb : Nat} (H : NdG w q t dm M X T L par D nb) (h : ∀ k, D k ↔ D' k) : NdG w q t dm M X T L par D' nb := by
  have : D = D' := funext (fun k => propext (h k))
  rw [← this]
  exact H
theorem GAt.same {w : World} {q nb : Nat} {Y : Nat → Prop} {T : TB} {L : List Nm} {par : Int → Int} {D D' : Int → Prop} (H : GAt w q Y T L par D nb) (h : ∀ k, D k ↔ D' k) : GAt w q Y T L par D' nb := by
  have : D = D' := funext (fun k => propext (h k))
  rw [← this]
  exact H
theorem GAt.par {w : World} {q nb : Nat} {Y : Nat → Prop} {T : TB} {L : List Nm} {par par' : Int → Int} {D : Int → Prop} (H : GAt w q Y T L par D nb) (h : ∀ d, D d → par' d = par d) : GAt w q Y T L par' D nb := by
  obtain ⟨t, dm, M, X, h1, h2⟩ := H
  obtain ⟨V, v1, v2, v3⟩ := h1.dirs
  exact ⟨t, dm, M, X, ⟨h1.nds, h1.tab, h1.lt, h1.noq, h1.nod, ⟨V, v1, fun d hd z => by rw [h d hd]; exact v2 d hd z, v3⟩, h1.each, h1.inj, h1.rng⟩, h2⟩
theorem GAt.mono {w : World} {q nb : Nat} {Y Z : Nat → Prop} {T : TB} {L : List Nm} {par : Int → Int} {D : Int → Prop} (H : GAt w q Y T L par D nb) (h : ∀ k, k < w.heap.size → Y k → Z k) : GAt w q Z T L par D nb := by
  obtain ⟨t, dm, M, X, h1, h2⟩ := H
  exact ⟨t, dm, M, X, h1, (h1.lts.and h2).mono (fun k hk => h k hk.1 hk.2)⟩
set_option maxRecDepth 20000 in
set_option maxHeartbeats 4000000 in
theorem move_any {w : World} {q nb : Nat} {Y : Nat → Prop} {T : TB} {L : List Nm} {par : Int → Int} {D : Int → Prop} (H : GAt w q Y T L par D nb) (i p : Int) (hd : D i) : Calls Tryz.prog 82 #[.pointer (some ⟨q, 0, none⟩), .int .i64 i, .int .i64 p] w fun e w' => e = .returned (.tuple #[]) ∧ Hid (GAt w' q Y T L (parU par i p) D nb ∧ GrownS w w' Y) := by
  obtain ⟨t, dm, M, X, HL, HY⟩ := H
  have hi := HL.rng i hd
  have c1 : w.cell? ⟨q, 1, none⟩ = some (.map (some dm)) := HL.nds.cell 1 rfl
  have HW := HL.bel (below_drew w 1)
  have hl3 : (Instr.lookup 70 (.map (some dm)) (.int .i64 i) false).run Tryz.prog w.drew = .ok (.agg #[.int .i64 (par i), .map (some (M i))]) w.drew := HW.look hd (by omega)
  have hfd := fld_dir (par i) (some (M i))
  have e := HW.each i hd
  obtain ⟨W2, hrun, HD, hg⟩ := HW.setDir (d := i) (p := p) (M i) (by omega) e.1 e.2.1 e.2.2 (fun c hc hne => HL.inj c i hc hd hne) hi
  have hM : (fun k => if k = i then M i else M k) = M := funext (fun k => by by_cases h : k = i <;> simp [h])
  rw [hM] at HD
  have HR : Hid (GAt W2 q Y T L (parU par i p) D nb ∧ GrownS w W2 Y) := hide ⟨⟨t, dm, M, X, HD.same (fun k => ⟨fun h => h.elim (fun e => by rw [e]; exact hd) (fun h => h), .inr⟩), HY⟩, (grownS_of_below (below_drew w 1)).trans (hg.mono (fun k _ e => by rw [e]; exact HY.dm))⟩
  have hrun1 : (Instr.mapUpdate 70 (.map (some dm)) (.int .i64 i) (.agg #[.int .i64 p, .map (some (M i))])).run Tryz.prog w.drew = .ok () W2 := hrun
  obtain ⟨md, hmd⟩ : ∃ md, md = M i := ⟨_, rfl⟩
  obtain ⟨pd, hpd⟩ : ∃ pd, pd = par i := ⟨_, rfl⟩
  rw [← hmd, ← hpd] at hfd hl3
  rw [← hmd] at hrun1
  clear HL HY HW HD hg e hM hrun hmd hpd hd
  go_enter Tryz.func82, Tryz.ntmps82
  go_region
  all_goals
    go_wp2_with fail
    exact bodyPost_end (res0 rfl _ _) rfl ⟨rfl, HR⟩
theorem zero_ne (p : Int) (m : Nat) : zeroDir ≠ dirV p m := by
  intro e
  unfold zeroDir dirV at e
  injection e with e3
  have e4 : ([Value.int .i64 0, Value.map none] : List Value) = [Value.int .i64 p, Value.map (some m)] := congrArg Array.toList e3
  injection e4 with _ e5
  injection e5 with e6
  injection e6 with e7
  cases e7
/-- n.dirs[d], with whether there is an entry. -/
theorem NdG.lookB {w : World} {q t dm : Nat} {M : Int → Nat} {X : Nat → Prop} {T : TB} {L : List Nm} {par : Int → Int} {D : Int → Prop} {nb : Nat} (H : NdG w q t dm M X T L par D nb) (d : Int) (hb : -9223372036854775808 ≤ d ∧ d ≤ 9223372036854775807) : ∃ (p : Int) (m : Option Nat) (b : Bool), (Instr.lookup 70 (.map (some dm)) (.int .i64 d) true).run Tryz.prog w = .ok (.tuple #[.agg #[.int .i64 p, .map m], .bool b]) w ∧ (b = true → D d) ∧ (D d → b = true) := by
  obtain ⟨V, h1, h2, h3⟩ := H.dirs
  obtain ⟨v, ps, h4, h5⟩ := h1.look_ok lawI und_dirs (zero_dir w) (zd := .held zeroDir) (zp := []) rfl (keyI (wf64 hb))
  have hv : V.atKey (.int .i64 d) (.held zeroDir) = .held v := (Prod.mk.inj (Option.some.inj h5)).1.symm
  have hkey : ∃ (p : Int) (m : Option Nat), v = .agg #[.int .i64 p, .map m] := by
    cases hh : has V (.int .i64 d) with
    | false =>
      rw [atKey_of_not_has hh] at hv
      exact ⟨0, none, (DataW.held.inj hv).symm⟩
    | true =>
      haveI := Classical.propDecidable (D d)
      by_cases hd : D d
      · rw [h2 d hd] at hv
        exact ⟨_, _, (DataW.held.inj hv).symm⟩
      · rw [h3 d hd] at hh; cases hh
  obtain ⟨p, m, rfl⟩ := hkey
  refine ⟨p, m, _, h4, fun hh => ?_, fun hd => ?_⟩
  · haveI := Classical.propDecidable (D d)
    by_cases hd : D d
    · exact hd
    · rw [h3 d hd] at hh; cases hh
  · cases hh : has V (.int .i64 d) with
    | true => rfl
    | false =>
      have e1 := h2 d hd (.held zeroDir)
      rw [atKey_of_not_has hh] at e1
      exact absurd (DataW.held.inj e1) (zero_ne _ _)
/-- The keys of the map of directories. -/
theorem NdG.keys {w : World} {q t dm : Nat} {M : Int → Nat} {X : Nat → Prop} {T : TB} {L : List Nm} {par : Int → Int} {D : Int → Prop} {nb : Nat} (H : NdG w q t dm M X T L par D nb) : ∃ V, MapV w 3 dm V ∧ Maps.size V ≤ 1024 ∧ ∀ x, x ∈ intKeys V ↔ D x := by
  obtain ⟨V, h1, h2, h3⟩ := H.dirs
  refine ⟨V, h1, dirs_size h1 (fun c hc => h3 c (fun h => hc (H.rng c h))), fun x => ?_⟩
  obtain ⟨es, rfl, hk⟩ := World.ownsMap.keysOf h1
  have hm : x ∈ intKeys (.map es) ↔ has (.map es) (.int .i64 x) = true := by
    rw [has_eq, List.any_eq_true]
    constructor
    · intro hx
      obtain ⟨p, hp, rfl⟩ := List.mem_map.1 hx
      obtain ⟨v, hv⟩ := hk p hp
      obtain ⟨y, _, hy, _⟩ := keyOf_int_inv Tryz.underlying3 hv
      refine ⟨p, hp, ?_⟩
      rw [hy]
      simp [Lit.sameKey, Go.intOf]
    · rintro ⟨p, hp, e⟩
      obtain ⟨v, hv⟩ := hk p hp
      obtain ⟨y, _, hy, _⟩ := keyOf_int_inv Tryz.underlying3 hv
      refine List.mem_map.2 ⟨p, hp, ?_⟩
      rw [hy] at e ⊢
      simp [Lit.sameKey] at e
      show y = x
      omega
  rw [hm]
  haveI := Classical.propDecidable (D x)
  constructor
  · intro hh
    by_cases hd : D x
    · exact hd
    · rw [h3 x hd] at hh; cases hh
  · intro hd
    cases hh : has (.map es) (.int .i64 x) with
    | true => rfl
    | false =>
      have e1 := h2 x hd (.held zeroDir)
      rw [atKey_of_not_has hh] at e1
      exact absurd (DataW.held.inj e1) (zero_ne _ _)
/-- The slice v holds these numbers. -/
def ZRow (w : World) (v : Value) (l : List Int) : Prop := (v = .slice none 0 0 ∧ l = []) ∨ ∃ (g cap : Nat) (cs : Array Value), v = .slice (some ⟨g, 0, none⟩) l.length cap ∧ l.length ≤ cap ∧ cap ≤ maxLen ∧ w.heap[g]? = some (.cells cs 3 (0, 0)) ∧ cap ≤ cs.size ∧ ∀ (i : Nat) (x : Int), l[i]? = some x → cs[i]? = some (.int .i64 x)
theorem ZRow.of {w : World} {base n : Nat} {v : Value} {l : List Int} (h : w.ownsRow base 3 1 v n (l.map fun x => .int .i64 x)) (hn : n = l.length) : ZRow w v l ∧ ∀ k, v.ownBlock = some k → base ≤ k := by
  subst hn
  obtain ⟨h0, ⟨rfl, h1⟩ | ⟨g, cap, cur, rfl, hb, hg, hle, hm, hsz, htk⟩⟩ := h
  · exact ⟨.inl ⟨rfl, List.eq_nil_of_length_eq_zero h1⟩, fun k hk => by cases hk⟩
  · refine ⟨.inr ⟨g, cap, cur, rfl, hle, hm, hg, by omega, fun i x hi => ?_⟩, fun k hk => ?_⟩
    · have hil := (List.getElem?_eq_some_iff.1 hi).1
      have e1 : (cur.toList.take (l.length * 1))[i]? = some (.int .i64 x) := by rw [htk, List.getElem?_map, hi]; rfl
      rw [List.getElem?_take, if_pos (by omega)] at e1
      simpa using e1
    · injection hk with hk
      subst hk
      exact hb
theorem ZRow.grownS {w w' : World} {v : Value} {l : List Int} {S : Nat → Prop} (h : ZRow w v l) (hg : GrownS w w' S) (hv : ∀ k, v.ownBlock = some k → ¬ S k) : ZRow w' v l := by
  rcases h with h | ⟨g, cap, cs, rfl, h1, h2, h3, h4⟩
  · exact .inl h
  · exact .inr ⟨g, cap, cs, rfl, h1, h2, (hg.block g (Array.getElem?_eq_some_iff.1 h3).1 (hv g rfl)).trans h3, h4⟩
theorem ZRow.len {w : World} {v : Value} {l : List Int} (h : ZRow w v l) : ∃ ad cap, v = .slice ad l.length cap ∧ l.length ≤ cap ∧ cap ≤ maxLen := by
  rcases h with ⟨rfl, rfl⟩ | ⟨g, cap, cs, rfl, h1, h2, _⟩
  · exact ⟨none, 0, rfl, by simp, Nat.zero_le _⟩
  · exact ⟨_, cap, rfl, h1, h2⟩
theorem ZRow.at {w : World} {ad : Option Addr} {n cap : Nat} {l : List Int} (h : ZRow w (.slice ad n cap) l) {i : Nat} {x : Int} (hi : l[i]? = some x) : ∃ g, ad = some ⟨g, 0, none⟩ ∧ w.cell? ⟨g, i, none⟩ = some (.int .i64 x) := by
  rcases h with ⟨_, rfl⟩ | ⟨g', cap', cs, h, _, _, hg, _, hc⟩
  · simp at hi
  · injection h with h1 h2 h3
    subst h1
    exact ⟨g', rfl, by simp [World.cell?, hg, hc i x hi]⟩
/-- The keys of the directories' map, in a new row. -/
theorem dkeys_any {w : World} {q t dm nb : Nat} {M : Int → Nat} {X : Nat → Prop} {T : TB} {L : List Nm} {par : Int → Int} {D : Int → Prop} (HL : NdG w q t dm M X T L par D nb) : Calls Tryz.prog 80 #[.func (.func 109) #[] #[.pointer (some ⟨w.heap.size, 0, none⟩)]] (w.alloc (.cells #[.map (some dm)] 70)) fun e w' => ∃ v' l, e = .returned v' ∧ Hid (ZRow w' v' l ∧ (∀ x, x ∈ l ↔ D x) ∧ l.length ≤ 1024 ∧ (∀ k, v'.ownBlock = some k → w.heap.size ≤ k) ∧ Below w.heap.size w w') := by
  have hal : Below w.heap.size w (w.alloc (.cells #[.map (some dm)] 70)) := (Below.refl _ w).alloc (Nat.le_refl _) _
  have hsz0 := hal.size
  obtain ⟨V, ho, hsz, hk⟩ := HL.keys
  refine (callsIn_wide.1 (Tryz.slices_Sorted_keys_80_81 dm _ V itself w ho (by unfold maxLen; omega) (by omega))).mono ?_
  rintro e w' ⟨v, ss, rfl, hp, hrow, _, hb⟩
  have hlen : ss.length = (ss.mergeSort (fun x y => decide (x ≤ y))).length := (List.length_mergeSort ss).symm
  have := ZRow.of (l := ss.mergeSort (fun x y => decide (x ≤ y))) hrow hlen
  refine ⟨v, _, rfl, hide ⟨this.1, fun x => ?_, ?_, fun k hk => Nat.le_trans hsz0 (this.2 k hk), hal.trans (hb.mono hsz0)⟩⟩
  · rw [List.mem_mergeSort, hp.mem_iff]
    exact hk x
  · rw [← hlen, hp.length_eq]
    obtain ⟨es, e, _⟩ := World.ownsMap.keysOf ho
    subst e
    show (es.map _).length ≤ 1024
    rw [List.length_map]
    exact hsz

end Go.Proofs.YtemologkibcdoaaGreatDoor

/- Directories (stage 13): forget. -/
namespace Go.Proofs.YtemologkibcdoaaGreatDoor
open Go.RowKit Go.Maps Go.Sort

theorem gisDir_any {w : World} {q nb : Nat} {Y : Nat → Prop} {T : TB} {L : List Nm} {par : Int → Int} {D : Int → Prop} (H : GAt w q Y T L par D nb) (i : Int) (hb : -9223372036854775808 ≤ i ∧ i ≤ 9223372036854775807) : Calls Tryz.prog 39 #[.pointer (some ⟨q, 0, none⟩), .int .i64 i] w fun e w' => e = .returned (.bool (decide (kdI T i = 2))) ∧ w' = w := by
  obtain ⟨t, dm, M, X, HL, _⟩ := H
  obtain ⟨TLL, hTL, _⟩ := HL.tab
  have HK := hide (tkind_any hTL i hb)
  change Hid (Calls _ _ _ _ fun e w' => e = .returned (.int .i64 (kdI T i : Int)) ∧ _) at HK
  have c0 : w.cell? ⟨q, 0, none⟩ = some (.pointer (some ⟨t, 0, none⟩)) := HL.nds.cell 0 rfl
  have hd : (((kdI T i : Nat) : Int) == 2) = decide (kdI T i = 2) := by
    by_cases h : kdI T i = 2
    · rw [h]; rfl
    · rw [decide_eq_false h, beq_eq_false_iff_ne]; omega
  obtain ⟨g, hg⟩ : ∃ g, g = decide (kdI T i = 2) := ⟨_, rfl⟩
  rw [← hg] at hd ⊢
  obtain ⟨k, hk⟩ : ∃ k, k = kdI T i := ⟨_, rfl⟩
  rw [← hk] at HK hd
  clear hk HL hTL hg
  go_enter Tryz.func39, Tryz.ntmps39
  go_wp2_with fail
  refine (unhide HK).mono ?_
  rintro e w1 ⟨rfl, rfl⟩
  go_wp2_with fail
  go_ret
  exact ⟨ret_bool (by rw [← hd]), rfl⟩

/-- The parents when the first of the keys were gone through. -/
def parJ (par : Int → Int) (i : Int) (l : List Int) (j : Nat) : Int → Int := fun k => if k ∈ l.take j ∧ par k = i then 0 else par k
theorem parJ_zero (par : Int → Int) (i : Int) (l : List Int) : parJ par i l 0 = par := funext (fun k => by unfold parJ; simp)
theorem parJ_yes {par : Int → Int} {i : Int} {l : List Int} {j : Nat} {c : Int} (hc : l[j]? = some c) (h : parJ par i l j c = i) : parU (parJ par i l j) c 0 = parJ par i l (j + 1) := by
  have hm : ∀ k, k ∈ l.take (j + 1) ↔ k ∈ l.take j ∨ k = c := fun k => by rw [List.take_add_one, hc]; simp
  funext k
  unfold parU
  by_cases e : k = c
  · subst e
    rw [if_pos rfl]
    unfold parJ at h ⊢
    by_cases h1 : k ∈ l.take j ∧ par k = i
    · rw [if_pos ⟨(hm k).2 (.inl h1.1), h1.2⟩]
    · rw [if_neg h1] at h
      rw [if_pos ⟨(hm k).2 (.inr rfl), h⟩]
  · rw [if_neg e]
    unfold parJ
    by_cases h1 : k ∈ l.take j ∧ par k = i
    · rw [if_pos h1, if_pos ⟨(hm k).2 (.inl h1.1), h1.2⟩]
    · rw [if_neg h1, if_neg (fun h2 => h1 ⟨((hm k).1 h2.1).resolve_right e, h2.2⟩)]
theorem parJ_no {par : Int → Int} {i : Int} {l : List Int} {j : Nat} {c : Int} (hc : l[j]? = some c) (h : parJ par i l j c ≠ i) : parJ par i l j = parJ par i l (j + 1) := by
  have hm : ∀ k, k ∈ l.take (j + 1) ↔ k ∈ l.take j ∨ k = c := fun k => by rw [List.take_add_one, hc]; simp
  funext k
  by_cases e : k = c
  · subst e
    unfold parJ at h ⊢
    by_cases h1 : k ∈ l.take j ∧ par k = i
    · rw [if_pos h1, if_pos ⟨(hm k).2 (.inl h1.1), h1.2⟩]
    · rw [if_neg h1] at h ⊢
      rw [if_neg (fun h2 => h h2.2)]
  · unfold parJ
    by_cases h1 : k ∈ l.take j ∧ par k = i
    · rw [if_pos h1, if_pos ⟨(hm k).2 (.inl h1.1), h1.2⟩]
    · rw [if_neg h1, if_neg (fun h2 => h1 ⟨((hm k).1 h2.1).resolve_right e, h2.2⟩)]
/-- While the keys are gone through. -/
structure Fgt (w3 wr : World) (q : Nat) (Z : Nat → Prop) (T : TB) (L : List Nm) (par : Int → Int) (i : Int) (D : Int → Prop) (nb : Nat) (v : Value) (l : List Int) (j : Nat) : Prop where
  at' : GAt wr q Z T L (parJ par i l j) D nb
  gr : GrownS w3 wr Z
  row : ZRow wr v l
theorem GAt.look {w : World} {q nb : Nat} {Y : Nat → Prop} {T : TB} {L : List Nm} {par : Int → Int} {D : Int → Prop} (H : GAt w q Y T L par D nb) {c : Int} (hc : D c) : ∃ (dm : Nat) (m : Option Nat), w.cell? ⟨q, 1, none⟩ = some (.map (some dm)) ∧ ∀ k, (Instr.lookup 70 (.map (some dm)) (.int .i64 c) false).run Tryz.prog (w.drewN k) = .ok (.agg #[.int .i64 (par c), .map m]) (w.drewN k) := by
  obtain ⟨t, dm, M, X, HL, HY⟩ := H
  have hr := HL.rng c hc
  exact ⟨dm, some (M c), HL.nds.cell 1 rfl, fun k => (HL.bel (below_drew w k)).look hc (by omega)⟩
theorem forg_no {T : TB} {par : Int → Int} {i : Int} {D : Int → Prop} (hup : ∀ k, D k → par k = i → i = 0 ∨ D i) (h : ¬ D i ∨ kdI T i = 2) (d : Int) (hd : D d) : forgP T i par d = par d := by
  unfold forgP
  by_cases hc : kindOf (ndAt T i) ≠ 2 ∧ par d = i
  · rw [if_pos hc]
    rcases h with h | h
    · rw [hc.2]
      exact ((hup d hd hc.2).resolve_right h).symm
    · exact absurd h hc.1
  · rw [if_neg hc]
theorem keep_no {T : TB} {i : Int} {D : Int → Prop} (h : ¬ D i ∨ kdI T i = 2) (k : Int) : D k ↔ keepD T i D k := by
  refine ⟨fun hk => ⟨hk, fun h2 e => ?_⟩, fun hk => hk.1⟩
  rcases h with h | h
  · exact h (by rw [← e]; exact hk)
  · exact h2 h
set_option maxRecDepth 20000 in
set_option maxHeartbeats 4000000 in
theorem forget_any {w : World} {q nb : Nat} {Y : Nat → Prop} {T : TB} {L : List Nm} {par : Int → Int} {D : Int → Prop} (H : GAt w q Y T L par D nb) (i : Int) (hup : ∀ k, D k → par k = i → i = 0 ∨ D i) (hb : -9223372036854775808 ≤ i ∧ i ≤ 9223372036854775807) : Calls Tryz.prog 60 #[.pointer (some ⟨q, 0, none⟩), .int .i64 i] w fun e w' => e = .returned (.tuple #[]) ∧ Hid (GAt w' q Y T L (forgP T i par) (keepD T i D) nb ∧ GrownS w w' Y) := by
  obtain ⟨t, dm, M, X, HL, HY⟩ := H
  have c1 : w.cell? ⟨q, 1, none⟩ = some (.map (some dm)) := HL.nds.cell 1 rfl
  obtain ⟨p0, m0, b0, hl, hb1, hb2⟩ := HL.lookB i hb
  have hbw : Below w.heap.size w (w.alloc (.cells #[.int .i64 p0, .map m0] 136)) := (Below.refl _ w).alloc (Nat.le_refl _) _
  have H1 : GAt (w.alloc (.cells #[.int .i64 p0, .map m0] 136)) q Y T L par D nb := ⟨t, dm, M, X, HL.bel hbw, HY⟩
  have HNO : Hid (¬ D i ∨ kdI T i = 2 → GAt (w.alloc (.cells #[.int .i64 p0, .map m0] 136)) q Y T L (forgP T i par) (keepD T i D) nb ∧ GrownS w (w.alloc (.cells #[.int .i64 p0, .map m0] 136)) Y) := hide (fun h => ⟨(H1.par (forg_no hup h)).same (keep_no h), grownS_of_below hbw⟩)
  have HID := hide (gisDir_any H1 i hb)
  cases b0 with
  | false =>
    have HR := hide (unhide HNO (.inl (fun h => by cases hb2 h)))
    clear HL HY hb1 hb2 HNO HID hup H1 hbw
    go_enter Tryz.func60, Tryz.ntmps60
    go_wp2_with fail
    exact bodyPost_ret (res0 rfl _ _) rfl ⟨rfl, HR⟩
  | true =>
    have hD := hb1 rfl
    by_cases hk : kdI T i = 2
    · have HR := hide (unhide HNO (.inr hk))
      rw [decide_eq_true hk] at HID
      clear HL HY hb1 hb2 HNO hup hD hk H1 hbw
      go_enter Tryz.func60, Tryz.ntmps60
      go_wp2_with fail
      refine (unhide HID).mono ?_
      rintro e w1 ⟨rfl, hw1⟩
      subst hw1
      go_wp2_with fail
      exact bodyPost_ret (res0 rfl _ _) rfl ⟨rfl, HR⟩
    · rw [decide_eq_false hk] at HID
      obtain ⟨w2, hrun, HD2, hg⟩ := (HL.bel hbw).delDir (d := i) hb
      have d0 : (w.alloc (.cells #[.int .i64 p0, .map m0] 136)).cell? ⟨q, 1, none⟩ = some (.map (some dm)) := (HL.bel hbw).nds.cell 1 rfl
      have HK := hide (callsIn_wide.1 (Tryz.maps_Keys_81 (some dm) w2))
      have HS := hide (dkeys_any HD2)
      have d1 : w2.cell? ⟨q, 1, none⟩ = some (.map (some dm)) := HD2.nds.cell 1 rfl
      have HG2 : Hid (GAt w2 q Y T L par (fun k => k ≠ i ∧ D k) nb) := hide ⟨t, dm, M, X, HD2, ⟨HY.q, HY.dm, fun d hd => HY.m d hd.2, HY.x⟩⟩
      have HGR : Hid (GrownS w w2 Y) := hide ((grownS_of_below hbw).trans (hg.mono (fun k _ e => by rw [e]; exact HY.dm)))
      have HFI : Hid (∀ (W : World) (l : List Int), (∀ x, x ∈ l ↔ x ≠ i ∧ D x) → ∀ j, l.length ≤ j → GAt W q Y T L (parJ par i l j) (fun k => k ≠ i ∧ D k) nb → GAt W q Y T L (forgP T i par) (keepD T i D) nb) := hide (fun W l hm j hj hg => by
        refine (hg.par (fun d hd => ?_)).same (fun k => ⟨fun h => ⟨h.2, fun _ => h.1⟩, fun h => ⟨h.2 hk, h.1⟩⟩)
        unfold forgP parJ
        rw [List.take_of_length_le hj]
        by_cases hc : par d = i
        · rw [if_pos ⟨hk, hc⟩, if_pos ⟨(hm d).2 hd, hc⟩]
        · rw [if_neg (fun h => hc h.2), if_neg (fun h => hc h.2)])
      have HD0 := hide d0
      have HRUN := hide hrun
      clear HL HY hb1 hb2 HNO hup hD hk HD2 hg H1 hbw d0 hrun
      go_enter Tryz.func60, Tryz.ntmps60
      go_wp2_with fail
      refine (unhide HID).mono ?_
      rintro e w1 ⟨rfl, hw1⟩
      obtain ⟨W1, hW1⟩ : ∃ W1, W1 = (w.alloc (.cells #[.int .i64 p0, .map m0] 136)) := ⟨_, rfl⟩
      rw [← hW1] at hw1 HD0 HRUN
      subst hw1
      clear hl c1 hW1
      have d0 := unhide HD0
      have hrun := unhide HRUN
      go_wp2_with fail
      refine (unhide HK).mono ?_
      rintro e w3 ⟨rfl, rfl⟩
      go_wp2_with fail
      refine (unhide HS).mono ?_
      rintro e w3 ⟨v, l, rfl, HX⟩
      obtain ⟨ad, cap, hv, _, _⟩ := (unhide HX).1.len
      obtain ⟨len, hlen⟩ : ∃ len, len = l.length := ⟨_, rfl⟩
      have HLN := hide hlen
      rw [← hlen] at hv
      subst hv
      have hl4 : len ≤ 1024 := by rw [hlen]; exact (unhide HX).2.2.1
      obtain ⟨Z, hZ⟩ : ∃ Z : Nat → Prop, Z = Upto w2 Y := ⟨_, rfl⟩
      have HZY : Hid (∀ k, Z k → Y k) := hide (fun k h => by rw [hZ] at h; exact h.1)
      have HZV : Hid (∀ k, (Value.slice ad len cap).ownBlock = some k → ¬ Z k) := hide (fun k hk h => by
        rw [hZ] at h
        have := (unhide HX).2.2.2.1 k hk
        have := h.2
        omega)
      have HG3 : Hid (GAt w3 q Z T L par (fun k => k ≠ i ∧ D k) nb) := hide (by
        rw [hZ]
        exact (((unhide HG2).mono (fun k h1 h2 => (⟨h2, h1⟩ : Upto w2 Y k))).below (unhide HX).2.2.2.2))
      have HGW : Hid (GrownS w w3 Y) := hide ((unhide HGR).trans (grownS_of_below (unhide HX).2.2.2.2))
      have HMM := hide (unhide HX).2.1
      obtain ⟨FS, hFS⟩ : ∃ FS : World → Nat → Prop, FS = fun wr j => Fgt w3 wr q Z T L par i (fun k => k ≠ i ∧ D k) nb (.slice ad len cap) l j := ⟨_, rfl⟩
      have HF1 : Hid (∀ wr j, FS wr j → Fgt w3 wr q Z T L par i (fun k => k ≠ i ∧ D k) nb (.slice ad len cap) l j) := hide (fun wr j h => by rw [hFS] at h; exact h)
      have HF2 : Hid (∀ wr j, Fgt w3 wr q Z T L par i (fun k => k ≠ i ∧ D k) nb (.slice ad len cap) l j → FS wr j) := hide (fun wr j h => by rw [hFS]; exact h)
      have HS0 : Hid (FS w3 0) := hide (unhide HF2 _ _ ⟨by rw [parJ_zero]; exact unhide HG3, grownS_of_below (Below.refl _ _), (unhide HX).1⟩)
      clear hFS hZ hlen HX HK HS HG2 HGR HG3 d1 d0 hrun HD0 HRUN HID
      go_wp2_with fail
      go_loopw [36] (fun x wr => ∃ j : Nat, x = .int .i64 (j : Int) ∧ j ≤ len ∧ Hid (FS wr j)) (fun x _ => len - (intOf x).toNat)
      case atStart => exact ⟨0, rfl, Nat.zero_le _, HS0⟩
      case round =>
        clear HS0
        obtain ⟨j, rfl, hjl, HT⟩ := hrel
        have hS := unhide HF1 _ _ (unhide HT)
        by_cases hlt : j < len
        · have hk1 : (j : Int) < (len : Int) := by omega
          have hk0 : (0 : Int) ≤ (j : Int) := by omega
          obtain ⟨c, hc⟩ : ∃ c, l[j]? = some c := ⟨_, List.getElem?_eq_getElem (by have := unhide HLN; omega)⟩
          obtain ⟨g, hg, cj⟩ := hS.row.at hc
          subst hg
          have hcd := (unhide HMM c).1 (List.mem_of_getElem? hc)
          obtain ⟨dm2, mm, cq, hlk⟩ := hS.at'.look hcd
          have hl0 := hlk 0
          change (Instr.lookup 70 (.map (some dm2)) (.int .i64 c) false).run Tryz.prog wr = .ok (.agg #[.int .i64 (parJ par i l j c), .map mm]) wr at hl0
          have hfd := fld_par (parJ par i l j c) mm
          have HMV := hide (move_any hS.at' c 0 hcd)
          have HSS := hide hS
          have HCC := hide hc
          have HPY : Hid (parJ par i l j c = i → parU (parJ par i l j) c 0 = parJ par i l (j + 1)) := hide (fun h => parJ_yes hc h)
          have HPN : Hid (parJ par i l j c ≠ i → parJ par i l j = parJ par i l (j + 1)) := hide (fun h => parJ_no hc h)
          obtain ⟨pc, hpc⟩ : ∃ pc, pc = parJ par i l j c := ⟨_, rfl⟩
          rw [← hpc] at hl0 hfd HPY HPN
          clear hS HT hc hcd hlk hpc
          by_cases he : pc = i
          · have he1 : (pc == i) = true := by simpa using he
            have HN := hide (unhide HPY he)
            clear he HPY HPN
            go_wp2_with fail
            refine (unhide HMV).mono ?_
            rintro e w5 ⟨rfl, HM⟩
            have HX : Hid (FS w5 (j + 1)) := hide (unhide HF2 _ _ ⟨by rw [← unhide HN]; exact (unhide HM).1, (unhide HSS).gr.trans (unhide HM).2, (unhide HSS).row.grownS (unhide HM).2 (unhide HZV)⟩)
            clear cj cq hl0 HMV HM
            go_wp2_with fail
            go_roundw
            case rel => exact ⟨j + 1, by go_num, by omega, HX⟩
            case measure => simp [intOf]; omega
          · have he1 : (pc == i) = false := by simpa using he
            have HX : Hid (FS wr (j + 1)) := hide (unhide HF2 _ _ ⟨by rw [← unhide HPN he]; exact (unhide HSS).at', (unhide HSS).gr, (unhide HSS).row⟩)
            clear he HPY HPN HMV
            go_wp2_with fail
            go_roundw
            case rel => exact ⟨j + 1, by go_num, by omega, HX⟩
            case measure => simp [intOf]; omega
        · have hk1 : ¬ (j : Int) < (len : Int) := by omega
          have HZ : Hid (GAt wr q Y T L (forgP T i par) (keepD T i D) nb ∧ GrownS w wr Y) := hide ⟨unhide HFI wr l (unhide HMM) j (by have := unhide HLN; omega) (hS.at'.mono (fun k _ h => unhide HZY k h)), (unhide HGW).trans (hS.gr.mono (fun k _ h => unhide HZY k h))⟩
          clear hS HT
          go_wp2_with fail
          exact bodyPost_end (res0 rfl _ _) rfl ⟨rfl, HZ⟩

end Go.Proofs.YtemologkibcdoaaGreatDoor

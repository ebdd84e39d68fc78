/-
  FdsEnds: Open, the end: names are taken away one by one, and nothing is left.
-/
import Derived.Test.YtemologkibcdoaaGreatDoorFdEI
namespace Go.Proofs.YtemologkibcdoaaGreatDoor
open Go.RowKit Go.Maps

theorem cut_there {s : NS} {i : Int} (z : Int) (hk : 1 ≤ kdI s.T i) : ∃ x, ndAt (ncutS s i z).T i = some x := by
  have e : kdI (ncutS s i z).T i = kdI s.T i := by
    unfold ncutS
    split
    · exact cut_kd s.T i z i
    · rfl
  cases hx : ndAt (ncutS s i z).T i with
  | none =>
    have : kdI (ncutS s i z).T i = 0 := by unfold kdI; rw [hx]; rfl
    omega
  | some x => exact ⟨x, rfl⟩
theorem es_opS {s : NS} {u : Int → Nat} {m : Nat} (H : ES s u m) {N : Int} (hN : N ≠ 1) (hx : ∃ x, ndAt s.T N = some x) (fl : Int) : ES (opS s N fl) (addU u N) m := by
  obtain ⟨x, hx⟩ := hx
  have hk := H.kind N x hN hx
  unfold opS
  by_cases h : hasF fl 18 = true
  · rw [if_pos h]
    obtain ⟨y, hy⟩ := cut_there (s := s) (i := N) 0 (by unfold kdI; rw [hx]; show 1 ≤ x.kind; omega)
    exact es_hold (es_cut H N 0) hN hy
  · rw [if_neg h]
    exact es_hold H hN hx
theorem ei_opn {A A' : AS} {m n nb k : Nat} (H : EI A m) (K : NOk A.s n) {d N E fl : Int} {p : List UInt8} (h : OpnA A nb k d p fl N E A') : EI A' m := by
  have hfi : ∀ {M F : Int} {s1 : NS}, FiSp A.s nb d p fl M F s1 → (F ≠ 0 → s1 = A.s) ∧ (F = 0 → M ≠ 1 ∧ ES s1 (usA A) m ∧ ∃ x, ndAt s1.T M = some x) := fun {M F s1} hf => by
    cases hf with
    | mk N' E' s' h1 h2 h3 =>
      rcases es_made H.es K.inv h3 with ⟨g1, g2⟩ | ⟨g1, g2, g3, g4⟩
      · refine ⟨fun _ => g2, fun hc => ?_⟩
        unfold crE at hc
        split at hc
        · cases hc
        · exact absurd hc g1
      · subst g1
        have e1 : crN N' 0 = N' := if_neg (by decide)
        refine ⟨fun hc => absurd rfl hc, fun _ => ?_⟩
        rw [e1]
        exact ⟨g2, g3, g4⟩
    | no h1 h2 => exact ⟨fun _ => rfl, fun hc => absurd hc h1⟩
    | there h1 h2 => exact ⟨fun _ => rfl, fun hc => absurd hc (by decide)⟩
    | dir h1 h2 h3 => exact ⟨fun _ => rfl, fun hc => absurd hc (by decide)⟩
    | ok h1 h2 h3 =>
      refine ⟨fun hc => absurd rfl hc, fun _ => ⟨fun e => ?_, H.es, walk_there K.inv K.up h1⟩⟩
      rw [e] at h3
      have : kdI A.s.T 1 = 2 := by unfold kdI; rw [H.es.root]; rfl
      have h3 : decide (kdI A.s.T 1 = 2) = false := h3
      rw [this] at h3
      exact absurd h3 (by decide)
  cases h with
  | full h => exact H
  | err j r E s' h1 h2 =>
    have hs : s' = A.s := by
      cases h2 with
      | arg _ => rfl
      | err M F s1 _ g2 g3 => exact (hfi g2).1 g3
    subst hs
    exact H
  | ok j r y s' h1 h2 =>
    cases h2 with
    | ok M s1 g1 g2 =>
      obtain ⟨g3, g4, g5⟩ := (hfi g2).2 rfl
      refine ⟨?_, clo_take (fun i x hne hi => ?_) ⟨_, nw_get ({ A with s := opS s1 M fl } : AS) _⟩⟩
      · rw [take_s]
        refine (es_opS g4 g3 g5 fl).us (fun i => ?_)
        rw [us_take, us_nw]
        show usA A i + (if (!false && decide (M = i)) = true then 1 else 0) = usA A i + (if i = M then 1 else 0)
        by_cases e : i = M
        · subst e
          simp
        · rw [if_neg (by simp; exact fun h => e h.symm), if_neg e]
      · rcases get_app hi with ⟨e, _⟩ | ⟨_, hi⟩
        · exact absurd e hne
        · exact H.clo i x hi
/-- When all numbers are closed no node has a user. -/
theorem us_zero {A : AS} (h : ∀ (j : Nat) (t : Th), A.th[j]? = some t → t.many = 0) (C : Clo A) (i : Int) : usA A i = 0 := by
  unfold usA
  rw [List.countP_eq_zero]
  intro t ht
  obtain ⟨j, hj⟩ := List.mem_iff_getElem?.1 ht
  obtain ⟨wh, mm⟩ := t
  cases wh with
  | file x =>
    have hm : mm = 0 := h j _ hj
    subst hm
    have := C j x hj
    simp [openAt, this]
  | _ => simp [openAt]
/-- A name is taken away. -/
theorem es_unlink {s : NS} {m n : Nat} (H : ES s (fun _ => 0) m) (K : NOk s n) {y : Nm} (hy : y ∈ s.L) : unlinkE s 1 y.name = 0 ∧ unlinkS s 1 y.name = goneS s 1 y.name ∧ ES (goneS s 1 y.name) (fun _ => 0) m ∧ (goneS s 1 y.name).L = dropL s.L 1 y.name := by
  have hd := H.dir y hy
  have ok := K.nm y hy
  have hk1 : kdI s.T 1 = 2 := by unfold kdI; rw [H.root]; rfl
  have hD : isD s 1 = true := by show decide (kdI s.T 1 = 2) = true; rw [hk1]; rfl
  have hp : placeN s 1 y.name = (1, y.name, 0) := by
    rw [place_plain ok.no, if_neg (by rw [hD]; decide), if_neg ok.ne, if_neg (fun h => h.elim ok.dot ok.dots), if_neg (by have := ok.len; omega)]
  have hf : findN s 1 y.name = y.node := by
    have := find_mem K.inv.srt hy
    rw [hd] at this
    exact this
  have hpos := K.inv.there hy
  have hn1 : y.node ≠ 1 := K.inv.top y hy
  have hnm : 1 ≤ nmI s.T y.node := NV.node1 K.inv.names hy
  obtain ⟨x, hx⟩ : ∃ x, ndAt s.T y.node = some x := by
    cases hx : ndAt s.T y.node with
    | none => unfold nmI at hnm; rw [hx] at hnm; exact absurd hnm (by decide)
    | some x => exact ⟨x, rfl⟩
  have hk := H.kind y.node x hn1 hx
  have hnd : isD s y.node = false := by
    show decide (kdI s.T y.node = 2) = false
    unfold kdI
    rw [hx]
    show decide (x.kind = 2) = false
    rw [hk.1]
    rfl
  have hE : unlinkE s 1 y.name = 0 := by
    unfold unlinkE
    rw [hp]
    dsimp only
    rw [hf, if_neg (by decide), if_neg (by omega), hnd]
    rfl
  refine ⟨hE, ?_, ?_, rfl⟩
  · unfold unlinkS
    rw [if_pos hE, hp]
  · have hxn : x.names ≠ 0 := by
      have : 1 ≤ x.names := by unfold nmI at hnm; rw [hx] at hnm; exact hnm
      omega
    have hu : untT s.T y.node = s.T.set (plc y.node) (leftN (untN x)) := by
      unfold untT
      rw [hx]
      dsimp only
      rw [if_neg hxn]
    have hxu : x.users = 0 := hk.2.1
    have hdir : ∀ z ∈ dropL s.L 1 y.name, z.dir = 1 := fun z hz => H.dir z (mem_drop.1 hz).1
    unfold goneS
    rw [hf, hu]
    have hs : ∀ o k, ndAt (s.T.set (plc y.node) o) k = if k = y.node then o else ndAt s.T k := fun o k => set_nd hx o k
    refine ⟨?_, fun k z hk2 hz => ?_, fun _ _ => rfl, rfl, hdir, by show (s.T.set _ _).length = m; rw [List.length_set]; exact H.len⟩
    · show ndAt (s.T.set _ _) 1 = _
      rw [hs, if_neg (fun e => hn1 e.symm)]
      exact H.root
    · have hz : ndAt (s.T.set (plc y.node) (leftN (untN x))) k = some z := hz
      rw [hs] at hz
      by_cases e : k = y.node
      · rw [if_pos e] at hz
        unfold leftN at hz
        split at hz
        · cases hz
        · rename_i h0
          injection hz with hz
          subst hz
          refine ⟨hk.1, hxu, .inl ?_⟩
          show 1 ≤ x.names - 1
          have : ¬ (x.names - 1 = 0 ∧ x.users = 0) := h0
          omega
      · rw [if_neg e] at hz
        exact H.kind k z hk2 hz
/-- Without names there is the root alone. -/
theorem es_alone {s : NS} {m n : Nat} (h1 : 1 ≤ m) (H : ES s (fun _ => 0) m) (K : NOk s n) (hL : s.L = []) : s.T = (rootS m).T := by
  have R := es_root m h1
  have hno : ∀ {s : NS}, ES s (fun _ => 0) m → NInv s → s.L = [] → ∀ i : Int, i ≠ 1 → ndAt s.T i = none := fun {s} H V hL i hi => by
    cases hx : ndAt s.T i with
    | none => rfl
    | some x =>
      have hk := H.kind i x hi hx
      have hn := V.names i
      rw [hL, if_neg hi] at hn
      unfold nmI at hn
      rw [hx] at hn
      have hn : namesOf (some x) = 0 := by simpa using hn
      have hn : x.names = 0 := hn
      have hu : x.users = 0 := hk.2.1
      have := hk.2.2
      omega
  apply List.ext_getElem?
  intro j
  have hj : ∀ {s : NS}, ES s (fun _ => 0) m → NInv s → s.L = [] → j < m → s.T[j]? = some (if j = 0 then some rtN else none) := fun {s} H V hL hjm => by
    have hl : j < s.T.length := by rw [H.len]; exact hjm
    have e1 := List.getElem?_eq_getElem hl
    rw [e1]
    have e2 := ndAt_of e1
    by_cases h0 : j = 0
    · subst h0
      have h3 : ndAt s.T 1 = some rtN := H.root
      have e2 : ndAt s.T 1 = s.T[0] := e2
      rw [if_pos rfl, ← e2, h3]
    · rw [if_neg h0, ← e2, hno H V hL _ (by omega)]
  rcases Nat.lt_or_ge j m with hjm | hjm
  · rw [hj H K.inv hL hjm, hj R (keep_root h1) rfl hjm]
  · rw [List.getElem?_eq_none (by rw [H.len]; exact hjm), List.getElem?_eq_none (by rw [R.len]; exact hjm)]

end Go.Proofs.YtemologkibcdoaaGreatDoor

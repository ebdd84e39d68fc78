/-
  Directories (stage 13): tie, forget, untie, open, move.
  Directories (stage 13): newPlace.
-/
import Derived.Test.YtemologkibcdoaaM22

/- Directories (stage 13): tie, forget, untie, open, move. -/
namespace Go.Proofs.Ytemologkibcdoaa
open Go.RowKit Go.Maps

theorem GAt.table {w w' : World} {q t dm nb : Nat} {M : Int → Nat} {X Y : Nat → Prop} {T T' : TB} {L : List Nm} {par : Int → Int} {D : Int → Prop} (h : NdG w q t dm M X T L par D nb) (hY : GIn q dm M X D Y) (hn : ∀ k, w.heap.size ≤ k → Y k) (h1 : TAt w' t (Fresh w X) T' nb) (h2 : GrownS w w' (Fresh w X)) : GAt w' q Y T' L par D nb ∧ GrownS w w' Y :=
  ⟨⟨t, dm, M, _, h.table h1 h2, hY.table hn⟩, h2.mono (fun k _ hk => hk.elim (hY.x k) (hn k))⟩
set_option maxRecDepth 20000 in
set_option maxHeartbeats 4000000 in
theorem open_any {w : World} {q nb : Nat} {Y : Nat → Prop} {T : TB} {L : List Nm} {par : Int → Int} {D : Int → Prop} (H : GAt w q Y T L par D nb) (hn : ∀ k, w.heap.size ≤ k → Y k) (i p : Int) (hi : 1 ≤ i ∧ i ≤ 1024) (hno : ∀ y ∈ L, y.dir ≠ i) : Calls Try.prog 33 #[.pointer (some ⟨q, 0, none⟩), .int .i64 i, .int .i64 p] w fun e w' => e = .returned (.tuple #[]) ∧ Hid (GAt w' q Y T L (parU par i p) (fun k => k = i ∨ D k) nb ∧ GrownS w w' Y) := by
  obtain ⟨t, dm, M, X, HL, HY⟩ := H
  have hbw : Below w.heap.size w (w.alloc (.map #[] 0)) := (Below.refl _ w).alloc (Nat.le_refl _) _
  have c1 : w.cell? ⟨q, 1, none⟩ = some (.map (some dm)) := HL.nds.cell 1 rfl
  have HW := HL.bel hbw
  have hmk : ∀ W : World, (Instr.makeMap 115 none).run Try.prog W = .ok (.map (some W.heap.size)) (W.alloc (.map #[] 0)) := fun W => by kernel_rfl
  have hmap : MapV (w.alloc (.map #[] 0)) 9 w.heap.size (datN L i) := by
    rw [dat_none hno]
    exact World.ownsMap_made (H := Value) w Try.prog 9 itself
  have lt := HL.lts
  obtain ⟨W2, hrun, HD, hg⟩ := HW.setDir (d := i) (p := p) w.heap.size (by omega) hmap (fun h => by have := lt.x _ h; omega) (fun e => by have := lt.dm; omega) (fun e he _ h => by have := lt.m e he; omega) hi
  have HR : Hid (GAt W2 q Y T L (parU par i p) (fun k => k = i ∨ D k) nb ∧ GrownS w W2 Y) := hide ⟨⟨t, dm, _, X, HD, ⟨HY.q, HY.dm, fun d hd => by
    by_cases h : d = i
    · simp only [if_pos h]; exact hn _ (Nat.le_refl _)
    · simp only [if_neg h]; exact HY.m d (hd.resolve_left h), HY.x⟩⟩, (grownS_of_below hbw).trans (hg.mono (fun k _ e => by rw [e]; exact HY.dm))⟩
  have hs : w.heap.size ≤ w.heap.size := Nat.le_refl _
  clear HL HY HW HD hg hbw hmap lt hs hn hno
  go_enter Try.func33, Try.ntmps33
  go_wp2_with fail
  exact bodyPost_end (res0 rfl _ _) rfl ⟨rfl, HR⟩

end Go.Proofs.Ytemologkibcdoaa

/- Directories (stage 13): newPlace. -/
namespace Go.Proofs.Ytemologkibcdoaa
open Go.RowKit Go.Maps

theorem NOk.rng {s : NS} {n : Nat} (K : NOk s n) {d : Int} (h : kdI s.T d = 2) : 1 ≤ d ∧ d ≤ 1024 := by
  unfold kdI at h
  cases hx : ndAt s.T d with
  | none => rw [hx] at h; cases h
  | some x =>
    obtain ⟨k, e, _, hl⟩ := ndAt_some hx
    have := K.max
    omega
theorem NdAt.toG {w : World} {q nb n : Nat} {Y : Nat → Prop} {s : NS} (H : NdAt w q Y s nb) (K : NOk s n) : GAt w q Y s.T s.L s.par (fun d => kdI s.T d = 2) nb := by
  obtain ⟨t, dm, M, X, h, hy⟩ := H
  obtain ⟨V, v1, v2⟩ := h.dirs
  exact ⟨t, dm, M, X, ⟨h.nds, h.tab, h.lt, h.noq, h.nod, ⟨V, v1, v2.at', v2.no⟩, h.each, h.inj, fun d hd => K.rng hd⟩, ⟨hy.q, hy.dm, hy.m, hy.x⟩⟩
theorem GAt.toN {w : World} {q nb : Nat} {Y : Nat → Prop} {T : TB} {L : List Nm} {par : Int → Int} {D : Int → Prop} (H : GAt w q Y T L par D nb) (h : ∀ d, D d ↔ kdI T d = 2) : NdAt w q Y ⟨T, L, par⟩ nb := by
  obtain ⟨t, dm, M, X, h1, hy⟩ := H.same h
  obtain ⟨V, v1, v2, v3⟩ := h1.dirs
  exact ⟨t, dm, M, X, ⟨h1.nds, h1.tab, h1.lt, h1.noq, h1.nod, ⟨V, v1, ⟨v2, v3⟩⟩, h1.each, h1.inj⟩, ⟨hy.q, hy.dm, hy.m, hy.x⟩⟩
theorem room_is {s : NS} {d : Int} {p : List UInt8} {N : Int} {t : List UInt8} {E : Int} (h : PlcIs (placeN s d p) N t E) : (E ≠ 0 → (roomN s d p).2.2 = E) ∧ (E = 0 → roomN s d p = if 0 < findN s N t then (0, [], 22) else if namesOf (ndAt s.T N) = 0 then (0, [], 23) else (N, t, 0)) := by
  obtain ⟨h1, h2, _⟩ := h
  refine ⟨fun hE => ?_, fun hE => ?_⟩
  · unfold roomN
    rw [if_pos (by rw [← h1]; exact hE)]
    exact h1.symm
  · have h3 : (placeN s d p).2.2 = 0 := by rw [← h1]; exact hE
    obtain ⟨e1, e2⟩ := h2 h3
    unfold roomN
    rw [if_neg (by rw [h3]; decide), ← e1, ← e2]
    split
    · rfl
    · split
      · rfl
      · rw [e1, e2, ← h3]
end Go.Proofs.Ytemologkibcdoaa

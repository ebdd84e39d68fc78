/-
  Directories (stage 13): tie, forget, untie, open, move.
  Directories (stage 13): newPlace.
-/
import Derived.Test.YtemologkibcdoaaGreatDoorM22

/- Directories (stage 13): tie, forget, untie, open, move. -/
namespace Go.Proofs.YtemologkibcdoaaGreatDoor
open Go.RowKit Go.Maps

theorem GAt.table {w w' : World} {q t dm nb : Nat} {M : Int → Nat} {X Y : Nat → Prop} {T T' : TB} {L : List Nm} {par : Int → Int} {D : Int → Prop} (h : NdG w q t dm M X T L par D nb) (hY : GIn q dm M X D Y) (hn : ∀ k, w.heap.size ≤ k → Y k) (h1 : TAt w' t (Fresh w X) T' nb) (h2 : GrownS w w' (Fresh w X)) : GAt w' q Y T' L par D nb ∧ GrownS w w' Y :=
  ⟨⟨t, dm, M, _, h.table h1 h2, hY.table hn⟩, h2.mono (fun k _ hk => hk.elim (hY.x k) (hn k))⟩
set_option maxRecDepth 20000 in
set_option maxHeartbeats 4000000 in
theorem tie_any {w : World} {q nb : Nat} {Y : Nat → Prop} {T : TB} {L : List Nm} {par : Int → Int} {D : Int → Prop} (H : GAt w q Y T L par D nb) (hn : ∀ k, w.heap.size ≤ k → Y k) (x : Nm) (hd : D x.dir) (hs : Srt L) (hno : ∀ y ∈ L, ¬ (y.dir = x.dir ∧ y.name = x.name)) (hnl : x.name.length ≤ 1000000) (hl : L.length ≤ 1000000) (hb : -9223372036854775808 ≤ x.node ∧ x.node ≤ 9223372036854775807) (hm : ∀ (k : Nat) (x : Nd), T[k]? = some (some x) → x.names ≤ 1000000) : Calls Tryz.prog 170 #[.pointer (some ⟨q, 0, none⟩), .agg #[.int .i64 x.dir, .string (BA x.name)], .int .i64 x.node] w fun e w' => e = .returned (.tuple #[]) ∧ Hid (GAt w' q Y (tieT T x.node) (putL L x) par D nb ∧ GrownS w w' Y) := by
  obtain ⟨t, dm, M, X, HL, HY⟩ := H
  have hr := HL.rng x.dir hd
  have hbw : Below w.heap.size w (w.alloc (.cells #[.int .i64 x.dir, .string (BA x.name)] 85)) := (Below.refl _ w).alloc (Nat.le_refl _) _
  have hnew := Blk.new w 85 #[.int .i64 x.dir, .string (BA x.name)]
  obtain ⟨W, hW⟩ : ∃ W, W = w.alloc (.cells #[.int .i64 x.dir, .string (BA x.name)] 85) := ⟨_, rfl⟩
  have HW' := hide hW
  rw [← hW] at hbw hnew
  obtain ⟨b, hb0⟩ : ∃ b, b = w.heap.size := ⟨_, rfl⟩
  have HB0 := hide hb0
  rw [← hb0] at hnew
  have HW := HL.bel hbw
  have c1 : W.cell? ⟨q, 1, none⟩ = some (.map (some dm)) := HW.nds.cell 1 rfl
  have e0 : W.cell? ⟨b, 0, none⟩ = some (.int .i64 x.dir) := hnew.cell 0 rfl
  have e1 : W.cell? ⟨b, 1, none⟩ = some (.string (BA x.name)) := hnew.cell 1 rfl
  have hl1 : ∀ k, (Instr.lookup 70 (.map (some dm)) (.int .i64 x.dir) false).run Tryz.prog (W.drewN k) = .ok (.agg #[.int .i64 (par x.dir), .map (some (M x.dir))]) (W.drewN k) := fun k => (HW.bel (below_drew W k)).look hd (by omega)
  have hl2 := hl1 1
  have hfd := fld_dir (par x.dir) (some (M x.dir))
  obtain ⟨W2, hrun, HP, hg⟩ := (HW.bel (below_drew W 1)).put hd hs hno hnl hl
  have hrun1 : (Instr.mapUpdate 134 (.map (some (M x.dir))) (.string (BA x.name)) (.int .i64 x.node)).run Tryz.prog W.drew = .ok () W2 := hrun
  have hl3 : (Instr.lookup 70 (.map (some dm)) (.int .i64 x.dir) false).run Tryz.prog W.drew = .ok (.agg #[.int .i64 (par x.dir), .map (some (M x.dir))]) W.drew := hl1 1
  have d0 : W2.cell? ⟨q, 0, none⟩ = some (.pointer (some ⟨t, 0, none⟩)) := HP.nds.cell 0 rfl
  have hn2 : ∀ k, W2.heap.size ≤ k → Y k := fun k hk => hn k (Nat.le_trans hbw.size (Nat.le_trans hg.size hk))
  have HT := hide (ttie_any (X := Fresh W2 (Upto W2 X)) (HP.tab.mono (fun k hk hx => .inl ⟨hx, hk⟩)) x.node hb hm)
  have HG : Hid (GrownS w W2 Y) := hide ((grownS_of_below hbw).trans (((grownS_of_below (below_drew W 1)).trans hg).mono (fun k _ e => by rw [e]; exact HY.m x.dir hd)))
  have HPX : NdG W2 q t dm M (Upto W2 X) T (putL L x) par D nb := ⟨HP.nds, HP.tab.mono (fun k hk hx => ⟨hx, hk⟩), fun k hk => hk.2, fun h => HP.noq h.1, fun h => HP.nod h.1, HP.dirs, fun d hd => ⟨(HP.each d hd).1, fun h => (HP.each d hd).2.1 h.1, (HP.each d hd).2.2⟩, HP.inj, HP.rng⟩
  have HF : Hid (∀ w', TAt w' t (Fresh W2 (Upto W2 X)) (tieT T x.node) nb → GrownS W2 w' (Fresh W2 (Upto W2 X)) → GAt w' q Y (tieT T x.node) (putL L x) par D nb ∧ GrownS W2 w' Y) := hide (fun w' a1 a2 => GAt.table HPX ⟨HY.q, HY.dm, HY.m, fun k hk => HY.x k hk.1⟩ hn2 a1 a2)
  obtain ⟨xd, xn, xi⟩ := x
  obtain ⟨md, hmd⟩ : ∃ md, md = M xd := ⟨_, rfl⟩
  obtain ⟨pd, hpd⟩ : ∃ pd, pd = par xd := ⟨_, rfl⟩
  change ∀ W', (Instr.field 136 (.agg #[.int .i64 (par xd), .map (some (M xd))]) 1).run Tryz.prog W' = _ at hfd
  change (Instr.mapUpdate 134 (.map (some (M xd))) (.string (BA xn)) (.int .i64 xi)).run Tryz.prog W.drew = .ok () W2 at hrun1
  change (Instr.lookup 70 (.map (some dm)) (.int .i64 xd) false).run Tryz.prog W.drew = .ok (.agg #[.int .i64 (par xd), .map (some (M xd))]) W.drew at hl3
  change W.cell? ⟨b, 0, none⟩ = some (.int .i64 xd) at e0
  change W.cell? ⟨b, 1, none⟩ = some (.string (BA xn)) at e1
  rw [← hmd, ← hpd] at hfd hl3
  rw [← hmd] at hrun1
  clear hW hb0 HL HY hr hbw hnew HW hl1 hl2 hrun HP hg HPX hmd hpd hd hno hs hm hn hn2 hl
  go_enter Tryz.func170, Tryz.ntmps170
  go_wp2_with fail
  rw [← unhide HW', ← unhide HB0]
  go_region
  all_goals
    go_wp2_with fail
    refine (unhide HT).mono ?_
    rintro e w3 ⟨rfl, a1, a2⟩
    have HA1 := hide a1
    have HA2 := hide a2
    clear a1 a2
    go_wp2_with fail
    exact bodyPost_end (res0 rfl _ _) rfl ⟨rfl, hide ⟨(unhide HF _ (unhide HA1) (unhide HA2)).1, (unhide HG).trans (unhide HF _ (unhide HA1) (unhide HA2)).2⟩⟩

set_option maxRecDepth 20000 in
set_option maxHeartbeats 4000000 in
theorem untie_any {w : World} {q nb : Nat} {Y : Nat → Prop} {T : TB} {L : List Nm} {par : Int → Int} {D : Int → Prop} (H : GAt w q Y T L par D nb) (hn : ∀ k, w.heap.size ≤ k → Y k) (d : Int) (m : List UInt8) (i : Int) (hup : ∀ k, D k → par k = i → i = 0 ∨ D i) (hd : D d) (hnl : m.length ≤ 1000000) (hb : -9223372036854775808 ≤ i ∧ i ≤ 9223372036854775807) (hm : ∀ (k : Nat) (x : Nd), T[k]? = some (some x) → x.names ≤ 1000000) : Calls Tryz.prog 40 #[.pointer (some ⟨q, 0, none⟩), .agg #[.int .i64 d, .string (BA m)], .int .i64 i] w fun e w' => e = .returned (.tuple #[]) ∧ Hid (GAt w' q Y (untT T i) (dropL L d m) (forgP (untT T i) i par) (keepD (untT T i) i D) nb ∧ GrownS w w' Y) := by
  obtain ⟨t, dm, M, X, HL, HY⟩ := H
  have hr := HL.rng d hd
  have hbw : Below w.heap.size w (w.alloc (.cells #[.int .i64 d, .string (BA m)] 85)) := (Below.refl _ w).alloc (Nat.le_refl _) _
  have hnew := Blk.new w 85 #[.int .i64 d, .string (BA m)]
  obtain ⟨W, hW⟩ : ∃ W, W = w.alloc (.cells #[.int .i64 d, .string (BA m)] 85) := ⟨_, rfl⟩
  have HW' := hide hW
  rw [← hW] at hbw hnew
  obtain ⟨b, hb0⟩ : ∃ b, b = w.heap.size := ⟨_, rfl⟩
  have HB0 := hide hb0
  rw [← hb0] at hnew
  have HW := HL.bel hbw
  have c1 : W.cell? ⟨q, 1, none⟩ = some (.map (some dm)) := HW.nds.cell 1 rfl
  have e0 : W.cell? ⟨b, 0, none⟩ = some (.int .i64 d) := hnew.cell 0 rfl
  have e1 : W.cell? ⟨b, 1, none⟩ = some (.string (BA m)) := hnew.cell 1 rfl
  have hl3 : (Instr.lookup 70 (.map (some dm)) (.int .i64 d) false).run Tryz.prog W.drew = .ok (.agg #[.int .i64 (par d), .map (some (M d))]) W.drew := (HW.bel (below_drew W 1)).look hd (by omega)
  have hfd := fld_dir (par d) (some (M d))
  obtain ⟨W2, hrun, HP, hg⟩ := (HW.bel (below_drew W 1)).drop m hd hnl
  have hrun1 : (Builtin.delete_ #[134, 9] 0 #[.map (some (M d)), .string (BA m)]).run Tryz.prog W.drew = .ok (.tuple #[]) W2 := hrun
  have d0 : W2.cell? ⟨q, 0, none⟩ = some (.pointer (some ⟨t, 0, none⟩)) := HP.nds.cell 0 rfl
  have hn2 : ∀ k, W2.heap.size ≤ k → Y k := fun k hk => hn k (Nat.le_trans hbw.size (Nat.le_trans hg.size hk))
  have HT := hide (tuntie_any (X := Fresh W2 (Upto W2 X)) (HP.tab.mono (fun k hk hx => .inl ⟨hx, hk⟩)) i hb hm)
  have HG : Hid (GrownS w W2 Y) := hide ((grownS_of_below hbw).trans (((grownS_of_below (below_drew W 1)).trans hg).mono (fun k _ e => by rw [e]; exact HY.m d hd)))
  have HPX : NdG W2 q t dm M (Upto W2 X) T (dropL L d m) par D nb := ⟨HP.nds, HP.tab.mono (fun k hk hx => ⟨hx, hk⟩), fun k hk => hk.2, fun h => HP.noq h.1, fun h => HP.nod h.1, HP.dirs, fun d hd => ⟨(HP.each d hd).1, fun h => (HP.each d hd).2.1 h.1, (HP.each d hd).2.2⟩, HP.inj, HP.rng⟩
  have HF : Hid (∀ w', TAt w' t (Fresh W2 (Upto W2 X)) (untT T i) nb → GrownS W2 w' (Fresh W2 (Upto W2 X)) → GAt w' q Y (untT T i) (dropL L d m) par D nb ∧ GrownS W2 w' Y) := hide (fun w' a1 a2 => GAt.table HPX ⟨HY.q, HY.dm, HY.m, fun k hk => HY.x k hk.1⟩ hn2 a1 a2)
  obtain ⟨md, hmd⟩ : ∃ md, md = M d := ⟨_, rfl⟩
  obtain ⟨pd, hpd⟩ : ∃ pd, pd = par d := ⟨_, rfl⟩
  rw [← hmd, ← hpd] at hfd hl3
  rw [← hmd] at hrun1
  have HUP := hide hup
  clear hW hb0 HL HY hr hbw hnew HW hrun HP hg HPX hmd hpd hd hm hn hn2 hup
  go_enter Tryz.func40, Tryz.ntmps40
  go_wp2_with fail
  rw [← unhide HW', ← unhide HB0]
  go_region
  all_goals
    go_wp2_with fail
    refine (unhide HT).mono ?_
    rintro e w3 ⟨rfl, a1, a2⟩
    have HA := hide (unhide HF _ a1 a2)
    have HC := hide (forget_any (unhide HA).1 i (unhide HUP) hb)
    clear a1 a2 HT
    go_wp2_with fail
    refine (unhide HC).mono ?_
    rintro e w4 ⟨rfl, HX⟩
    go_wp2_with fail
    exact bodyPost_end (res0 rfl _ _) rfl ⟨rfl, hide ⟨(unhide HX).1, ((unhide HG).trans (unhide HA).2).trans (unhide HX).2⟩⟩
set_option maxRecDepth 20000 in
set_option maxHeartbeats 4000000 in
theorem open_any {w : World} {q nb : Nat} {Y : Nat → Prop} {T : TB} {L : List Nm} {par : Int → Int} {D : Int → Prop} (H : GAt w q Y T L par D nb) (hn : ∀ k, w.heap.size ≤ k → Y k) (i p : Int) (hi : 1 ≤ i ∧ i ≤ 1024) (hno : ∀ y ∈ L, y.dir ≠ i) : Calls Tryz.prog 72 #[.pointer (some ⟨q, 0, none⟩), .int .i64 i, .int .i64 p] w fun e w' => e = .returned (.tuple #[]) ∧ Hid (GAt w' q Y T L (parU par i p) (fun k => k = i ∨ D k) nb ∧ GrownS w w' Y) := by
  obtain ⟨t, dm, M, X, HL, HY⟩ := H
  have hbw : Below w.heap.size w (w.alloc (.map #[] 0)) := (Below.refl _ w).alloc (Nat.le_refl _) _
  have c1 : w.cell? ⟨q, 1, none⟩ = some (.map (some dm)) := HL.nds.cell 1 rfl
  have HW := HL.bel hbw
  have hmk : ∀ W : World, (Instr.makeMap 134 none).run Tryz.prog W = .ok (.map (some W.heap.size)) (W.alloc (.map #[] 0)) := fun W => by kernel_rfl
  have hmap : MapV (w.alloc (.map #[] 0)) 9 w.heap.size (datN L i) := by
    rw [dat_none hno]
    exact World.ownsMap_made (H := Value) w Tryz.prog 9 itself
  have lt := HL.lts
  obtain ⟨W2, hrun, HD, hg⟩ := HW.setDir (d := i) (p := p) w.heap.size (by omega) hmap (fun h => by have := lt.x _ h; omega) (fun e => by have := lt.dm; omega) (fun e he _ h => by have := lt.m e he; omega) hi
  have HR : Hid (GAt W2 q Y T L (parU par i p) (fun k => k = i ∨ D k) nb ∧ GrownS w W2 Y) := hide ⟨⟨t, dm, _, X, HD, ⟨HY.q, HY.dm, fun d hd => by
    by_cases h : d = i
    · simp only [if_pos h]; exact hn _ (Nat.le_refl _)
    · simp only [if_neg h]; exact HY.m d (hd.resolve_left h), HY.x⟩⟩, (grownS_of_below hbw).trans (hg.mono (fun k _ e => by rw [e]; exact HY.dm))⟩
  have hs : w.heap.size ≤ w.heap.size := Nat.le_refl _
  clear HL HY HW HD hg hbw hmap lt hs hn hno
  go_enter Tryz.func72, Tryz.ntmps72
  go_wp2_with fail
  exact bodyPost_end (res0 rfl _ _) rfl ⟨rfl, HR⟩

end Go.Proofs.YtemologkibcdoaaGreatDoor

/- Directories (stage 13): newPlace. -/
namespace Go.Proofs.YtemologkibcdoaaGreatDoor
open Go.RowKit Go.Maps

theorem NOk.rng {s : NS} {n : Nat} (K : NOk s n) {d : Int} (h : kdI s.T d = 2) : 1 ≤ d ∧ d ≤ 1024 := by
  unfold kdI at h
  cases hx : ndAt s.T d with
  | none => rw [hx] at h; cases h
  | some x =>
    obtain ⟨k, e, _, hl⟩ := ndAt_some hx
    have := K.max
    omega
theorem NdAt.toG {w : World} {q nb n : Nat} {Y : Nat → Prop} {s : NS} (H : NdAt w q Y s nb) (K : NOk s n) : GAt w q Y s.T s.L s.par (fun d => kdI s.T d = 2) nb := by
  obtain ⟨t, dm, M, X, h, hy⟩ := H
  obtain ⟨V, v1, v2⟩ := h.dirs
  exact ⟨t, dm, M, X, ⟨h.nds, h.tab, h.lt, h.noq, h.nod, ⟨V, v1, v2.at', v2.no⟩, h.each, h.inj, fun d hd => K.rng hd⟩, ⟨hy.q, hy.dm, hy.m, hy.x⟩⟩
theorem GAt.toN {w : World} {q nb : Nat} {Y : Nat → Prop} {T : TB} {L : List Nm} {par : Int → Int} {D : Int → Prop} (H : GAt w q Y T L par D nb) (h : ∀ d, D d ↔ kdI T d = 2) : NdAt w q Y ⟨T, L, par⟩ nb := by
  obtain ⟨t, dm, M, X, h1, hy⟩ := H.same h
  obtain ⟨V, v1, v2, v3⟩ := h1.dirs
  exact ⟨t, dm, M, X, ⟨h1.nds, h1.tab, h1.lt, h1.noq, h1.nod, ⟨V, v1, ⟨v2, v3⟩⟩, h1.each, h1.inj⟩, ⟨hy.q, hy.dm, hy.m, hy.x⟩⟩
theorem room_is {s : NS} {d : Int} {p : List UInt8} {N : Int} {t : List UInt8} {E : Int} (h : PlcIs (placeN s d p) N t E) : (E ≠ 0 → (roomN s d p).2.2 = E) ∧ (E = 0 → roomN s d p = if 0 < findN s N t then (0, [], 22) else if namesOf (ndAt s.T N) = 0 then (0, [], 23) else (N, t, 0)) := by
  obtain ⟨h1, h2, _⟩ := h
  refine ⟨fun hE => ?_, fun hE => ?_⟩
  · unfold roomN
    rw [if_pos (by rw [← h1]; exact hE)]
    exact h1.symm
  · have h3 : (placeN s d p).2.2 = 0 := by rw [← h1]; exact hE
    obtain ⟨e1, e2⟩ := h2 h3
    unfold roomN
    rw [if_neg (by rw [h3]; decide), ← e1, ← e2]
    split
    · rfl
    · split
      · rfl
      · rw [e1, e2, ← h3]
set_option maxRecDepth 20000 in
set_option maxHeartbeats 4000000 in
theorem newPlace_any {w : World} {q nb n : Nat} {B : Bas} {Y : Nat → Prop} {s : NS} (H : NdX w q Y s nb n B) (d : Int) (p : List UInt8) (h0 : 0 ≤ d) (h1 : d ≤ 1024) (hp : p.length ≤ 100000) (hd : isD s d = true) : Calls Tryz.prog 169 #[.pointer (some ⟨q, 0, none⟩), .int .i64 d, .string (BA p)] w fun e w' => ∃ N t E, e = .returned (.tuple #[.agg #[.int .i64 N, .string (BA t)], .int .i64 E]) ∧ Hid (PlcIs (roomN s d p) N t E ∧ Below w.heap.size w w') := by
  obtain ⟨RR, hRR⟩ : ∃ RR, RR = roomN s d p := ⟨_, rfl⟩
  have HRR := hide hRR
  rw [← hRR]
  clear hRR
  have hbw : Below w.heap.size w (w.alloc (.cells #[.int .i64 0, .string ⟨#[]⟩] 85)) := (Below.refl _ w).alloc (Nat.le_refl _) _
  have hnew := Blk.new w 85 #[.int .i64 0, .string ⟨#[]⟩]
  have HPO := hide (placeOf_any (H.below hbw) d p h0 h1 hp hd)
  have HH := hide H
  obtain ⟨W1, hW1⟩ : ∃ W1, W1 = w.alloc (.cells #[.int .i64 0, .string ⟨#[]⟩] 85) := ⟨_, rfl⟩
  have HW1 := hide hW1
  rw [← hW1] at hbw hnew HPO
  obtain ⟨pb, hpb⟩ : ∃ pb, pb = w.heap.size := ⟨_, rfl⟩
  have HPB0 := hide hpb
  have HPB : Hid (w.heap.size ≤ pb) := hide (by rw [hpb]; exact Nat.le_refl _)
  rw [← hpb] at hnew
  have HN := hide hnew
  have HB := hide hbw
  clear hW1 hpb hnew hbw H
  go_enter Tryz.func169, Tryz.ntmps169
  go_wp2_with fail
  rw [← unhide HW1, ← unhide HPB0]
  refine (unhide HPO).mono ?_
  rintro e w2 ⟨N, t, E, rfl, HP⟩
  have HB2 := hide ((unhide HB).trans ((unhide HP).2.mono (unhide HB).size))
  have HN2 := hide ((unhide HN).below (unhide HP).2 (unhide HN).lt)
  have hbw3 : Below w2.heap.size w2 (w2.alloc (.cells #[.int .i64 N, .string (BA t)] 85)) := (Below.refl _ w2).alloc (Nat.le_refl _) _
  have hnew3 := Blk.new w2 85 #[.int .i64 N, .string (BA t)]
  have HB3 := hide ((unhide HB2).trans (hbw3.mono (unhide HB2).size))
  have HN3 := hide ((unhide HN2).below hbw3 (unhide HN2).lt)
  have HPI := hide (unhide HP).1
  obtain ⟨W3, hW3⟩ : ∃ W3, W3 = w2.alloc (.cells #[.int .i64 N, .string (BA t)] 85) := ⟨_, rfl⟩
  have HW3 := hide hW3
  rw [← hW3] at hnew3 HB3 HN3
  obtain ⟨ab, hab⟩ : ∃ ab, ab = w2.heap.size := ⟨_, rfl⟩
  have HAB := hide hab
  rw [← hab] at hnew3
  have HA3 := hide hnew3
  have f0 : W3.cell? ⟨pb, 0, none⟩ = some (.int .i64 0) := (unhide HN3).cell 0 rfl
  have f1 : W3.cell? ⟨pb, 1, none⟩ = some (.string ⟨#[]⟩) := (unhide HN3).cell 1 rfl
  have f2 : W3.frozen? ⟨pb, 0, none⟩ = false := (unhide HN3).frozen 0
  have f3 : W3.frozen? ⟨pb, 1, none⟩ = false := (unhide HN3).frozen 1
  have g0 : W3.cell? ⟨ab, 0, none⟩ = some (.int .i64 N) := hnew3.cell 0 rfl
  have g1 : W3.cell? ⟨ab, 1, none⟩ = some (.string (BA t)) := hnew3.cell 1 rfl
  have HRM := hide (room_is (unhide HPI))
  rw [← unhide HRR] at HRM
  have ht := (unhide HPI).2.2.1
  have hN0 := (unhide HPI).2.2.2.1
  have hN1 := (unhide HPI).2.2.2.2
  clear hW3 hab hnew3 hbw3 HP HB HN HPO HN2 HB2
  by_cases hE : E = 0
  · have HR2 := hide ((unhide HRM).2 hE)
    subst hE
    have HX3 := hide ((unhide HH).below (unhide HB3))
    have HLK := hide (lookup_any (unhide HX3) N t (by omega) (by omega))
    by_cases hf : findN s N t = 0
    · rw [show isN s N t = false from decide_eq_false (by rw [hf]; decide)] at HLK
      obtain ⟨ff, hff⟩ : ∃ ff, ff = findN s N t := ⟨_, rfl⟩
      rw [← hff] at HLK
      rw [if_neg (by rw [hf]; decide)] at HR2
      clear hf hff
      go_wp2_with fail
      rw [← unhide HW3]
      refine (unhide HLK).mono ?_
      rintro e w4 ⟨rfl, b4⟩
      have HX4 := hide ((unhide HX3).below b4)
      have HB4 := hide ((unhide HB3).trans (b4.mono (unhide HB3).size))
      have HN4 := hide ((unhide HN3).below b4 (unhide HN3).lt)
      have HA4 := hide ((unhide HA3).below b4 (unhide HA3).lt)
      rw [← unhide HAB]
      clear f0 f1 f2 f3 g0 g1 b4 HLK HN3 HB3 HX3 HA3
      have f0 : w4.cell? ⟨pb, 0, none⟩ = some (.int .i64 0) := (unhide HN4).cell 0 rfl
      have f1 : w4.cell? ⟨pb, 1, none⟩ = some (.string ⟨#[]⟩) := (unhide HN4).cell 1 rfl
      have f2 : w4.frozen? ⟨pb, 0, none⟩ = false := (unhide HN4).frozen 0
      have f3 : w4.frozen? ⟨pb, 1, none⟩ = false := (unhide HN4).frozen 1
      have g0 : w4.cell? ⟨ab, 0, none⟩ = some (.int .i64 N) := (unhide HA4).cell 0 rfl
      have g1 : w4.cell? ⟨ab, 1, none⟩ = some (.string (BA t)) := (unhide HA4).cell 1 rfl
      obtain ⟨tt, dm, M, X, HL, _⟩ := (unhide HX4).at'
      have c0 : w4.cell? ⟨q, 0, none⟩ = some (.pointer (some ⟨tt, 0, none⟩)) := HL.nds.cell 0 rfl
      have HLN := hide (fun k => (NdX.bel HL (below_drew w4 k)).links N (by omega))
      obtain ⟨z, hz⟩ : ∃ z, z = namesOf (ndAt s.T N) := ⟨_, rfl⟩
      rw [← hz] at HLN HR2
      clear HL hz
      by_cases hz0 : z = 0
      · subst hz0
        rw [if_pos rfl] at HR2
        go_wp2_with fail
        go_quiet ((go_at_call 141; exact Calls.quiet_of_same (unhide HLN _)))
        obtain ⟨W5, hW5⟩ : ∃ W5, W5 = w4.drewN nq := ⟨_, rfl⟩
        rw [← hW5]
        have HK2 : Hid (Blk W5 pb 85 #[.int .i64 0, .string ⟨#[]⟩]) := hide (by rw [hW5]; exact unhide HN4)
        have HB2 : Hid (Below w.heap.size w W5) := hide (by rw [hW5]; exact (unhide HB4).trans ((below_drew _ _).mono (unhide HB4).size))
        have k0 : W5.cell? ⟨pb, 0, none⟩ = some (.int .i64 0) := (unhide HK2).cell 0 rfl
        have k1 : W5.cell? ⟨pb, 1, none⟩ = some (.string ⟨#[]⟩) := (unhide HK2).cell 1 rfl
        have k2 : W5.frozen? ⟨pb, 0, none⟩ = false := (unhide HK2).frozen 0
        have k3 : W5.frozen? ⟨pb, 1, none⟩ = false := (unhide HK2).frozen 1
        clear hW5
        go_wp2_with fail
        refine bodyPost_ret (res_place2 rfl _ _ pb _ _ rfl (by first | exact (((unhide HK2).set 0 _).set 1 _).cell 0 rfl | exact (unhide HK2).cell 0 rfl) (by first | exact (((unhide HK2).set 0 _).set 1 _).cell 1 rfl | exact (unhide HK2).cell 1 rfl)) rfl ⟨0, [], 23, rfl, hide ⟨plc_no (by rw [unhide HR2]) (by decide), by first | exact below_set2 (unhide HB2) (unhide HPB) _ _ | exact unhide HB2⟩⟩
      · rw [if_neg hz0] at HR2
        have hz1 : (((z : Nat) : Int) == 0) = false := by rw [beq_eq_false_iff_ne]; omega
        clear hz0
        go_wp2_with fail
        go_quiet ((go_at_call 141; exact Calls.quiet_of_same (unhide HLN _)))
        obtain ⟨W5, hW5⟩ : ∃ W5, W5 = w4.drewN nq := ⟨_, rfl⟩
        rw [← hW5]
        have HK2 : Hid (Blk W5 pb 85 #[.int .i64 0, .string ⟨#[]⟩]) := hide (by rw [hW5]; exact unhide HN4)
        have HK3 : Hid (Blk W5 ab 85 #[.int .i64 N, .string (BA t)]) := hide (by rw [hW5]; exact unhide HA4)
        have HB2 : Hid (Below w.heap.size w W5) := hide (by rw [hW5]; exact (unhide HB4).trans ((below_drew _ _).mono (unhide HB4).size))
        have k0 : W5.cell? ⟨pb, 0, none⟩ = some (.int .i64 0) := (unhide HK2).cell 0 rfl
        have k1 : W5.cell? ⟨pb, 1, none⟩ = some (.string ⟨#[]⟩) := (unhide HK2).cell 1 rfl
        have k2 : W5.frozen? ⟨pb, 0, none⟩ = false := (unhide HK2).frozen 0
        have k3 : W5.frozen? ⟨pb, 1, none⟩ = false := (unhide HK2).frozen 1
        have k4 : W5.cell? ⟨ab, 0, none⟩ = some (.int .i64 N) := (unhide HK3).cell 0 rfl
        have k5 : W5.cell? ⟨ab, 1, none⟩ = some (.string (BA t)) := (unhide HK3).cell 1 rfl
        clear hW5
        go_wp2_with fail
        refine bodyPost_ret (res_place2 rfl _ _ pb _ _ rfl (by first | exact (((unhide HK2).set 0 _).set 1 _).cell 0 rfl | exact (unhide HK2).cell 0 rfl) (by first | exact (((unhide HK2).set 0 _).set 1 _).cell 1 rfl | exact (unhide HK2).cell 1 rfl)) rfl ⟨N, t, 0, rfl, hide ⟨plc_ok (unhide HR2) ht hN0 hN1, by first | exact below_set2 (unhide HB2) (unhide HPB) _ _ | exact unhide HB2⟩⟩
    · rw [show isN s N t = true from decide_eq_true hf] at HLK
      have hfb := (unhide HH).ok.find N t
      rw [if_pos (by omega)] at HR2
      obtain ⟨ff, hff⟩ : ∃ ff, ff = findN s N t := ⟨_, rfl⟩
      rw [← hff] at HLK
      clear hf hff hfb
      go_wp2_with fail
      rw [← unhide HW3]
      refine (unhide HLK).mono ?_
      rintro e w4 ⟨rfl, b4⟩
      have HB2 := hide ((unhide HB3).trans (b4.mono (unhide HB3).size))
      have HK2 := hide ((unhide HN3).below b4 (unhide HN3).lt)
      rw [← unhide HAB]
      clear f0 f1 f2 f3 g0 g1 b4 HLK
      have f0 : w4.cell? ⟨pb, 0, none⟩ = some (.int .i64 0) := (unhide HK2).cell 0 rfl
      have f1 : w4.cell? ⟨pb, 1, none⟩ = some (.string ⟨#[]⟩) := (unhide HK2).cell 1 rfl
      have f2 : w4.frozen? ⟨pb, 0, none⟩ = false := (unhide HK2).frozen 0
      have f3 : w4.frozen? ⟨pb, 1, none⟩ = false := (unhide HK2).frozen 1
      go_wp2_with fail
      refine bodyPost_ret (res_place2 rfl _ _ pb _ _ rfl (by first | exact (((unhide HK2).set 0 _).set 1 _).cell 0 rfl | exact (unhide HK2).cell 0 rfl) (by first | exact (((unhide HK2).set 0 _).set 1 _).cell 1 rfl | exact (unhide HK2).cell 1 rfl)) rfl ⟨0, [], 22, rfl, hide ⟨plc_no (by rw [unhide HR2]) (by decide), by first | exact below_set2 (unhide HB2) (unhide HPB) _ _ | exact unhide HB2⟩⟩
  · have hE1 : (E != 0) = true := by simpa using hE
    have HR2 := hide ((unhide HRM).1 hE)
    have HE := hide hE
    have HK2 := HN3
    have HB2 := HB3
    clear hE HRM
    have hw3 := unhide HW3
    subst hw3
    go_wp2_with fail
    refine bodyPost_ret (res_place2 rfl _ _ pb _ _ rfl (by first | exact (((unhide HK2).set 0 _).set 1 _).cell 0 rfl | exact (unhide HK2).cell 0 rfl) (by first | exact (((unhide HK2).set 0 _).set 1 _).cell 1 rfl | exact (unhide HK2).cell 1 rfl)) rfl ⟨0, [], E, rfl, hide ⟨plc_no (unhide HR2) (unhide HE), by first | exact below_set2 (unhide HB2) (unhide HPB) _ _ | exact unhide HB2⟩⟩

end Go.Proofs.YtemologkibcdoaaGreatDoor

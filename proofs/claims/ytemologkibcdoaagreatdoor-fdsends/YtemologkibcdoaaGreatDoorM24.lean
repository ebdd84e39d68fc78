/-
  Directories (stage 13): what calls leave is as it should be.
  Directories (stage 13): create.
-/
import Derived.Test.YtemologkibcdoaaGreatDoorM23

/- Directories (stage 13): what calls leave is as it should be. -/
namespace Go.Proofs.YtemologkibcdoaaGreatDoor
open Go.RowKit Go.Maps

theorem unt_kd (T : TB) (i k : Int) : (k ≠ i → kdI (untT T i) k = kdI T k) ∧ (kdI (untT T i) i = kdI T i ∨ kdI (untT T i) i = 0) := by
  unfold untT
  cases hx : ndAt T i with
  | none => exact ⟨fun _ => rfl, .inl rfl⟩
  | some x =>
    dsimp only
    split
    · exact ⟨fun _ => rfl, .inl rfl⟩
    · unfold kdI
      rw [set_nd hx, set_nd hx, if_pos rfl, hx]
      refine ⟨fun h => by rw [if_neg h], ?_⟩
      unfold leftN
      split
      · exact .inr rfl
      · exact .inl rfl
theorem loo_kd (T : TB) (i k : Int) : (k ≠ i → kdI (looT T i) k = kdI T k) ∧ (kdI (looT T i) i = kdI T i ∨ kdI (looT T i) i = 0) := by
  unfold looT
  cases hx : ndAt T i with
  | none => exact ⟨fun _ => rfl, .inl rfl⟩
  | some x =>
    dsimp only
    split
    · exact ⟨fun _ => rfl, .inl rfl⟩
    · unfold kdI
      rw [set_nd hx, set_nd hx, if_pos rfl, hx]
      refine ⟨fun h => by rw [if_neg h], ?_⟩
      unfold leftN
      split
      · exact .inr rfl
      · exact .inl rfl
theorem make_len (T : TB) (k : Int) : (makeT T k).length = T.length := by unfold makeT; split <;> simp
theorem tie_len (T : TB) (k : Int) : (tieT T k).length = T.length := by unfold tieT; split <;> simp
theorem hold_len (T : TB) (k : Int) : (holdT T k).length = T.length := by unfold holdT; split <;> simp
theorem unt_len (T : TB) (k : Int) : (untT T k).length = T.length := by
  unfold untT
  split
  · rfl
  · split <;> simp
theorem loo_len (T : TB) (k : Int) : (looT T k).length = T.length := by
  unfold looT
  split
  · rfl
  · split <;> simp
theorem wr_len {T T' : TB} {free : Nat} {i a N E : Int} {d : List UInt8} (h : WrSp T free i a d N E T') : T'.length = T.length := by
  cases h <;> simp
theorem put_len' (L : List Nm) (x : Nm) : (putL L x).length = L.length + 1 := by
  have h := count_put (L := L) (x := x) (fun _ => true)
  simpa using h
theorem drop_len (L : List Nm) (d : Int) (n : List UInt8) : (dropL L d n).length ≤ L.length := List.length_filter_le _ _
theorem place_nm {s : NS} {d : Int} {p : List UInt8} (h : (placeN s d p).2.2 = 0) : NmOk (placeN s d p).2.1 := by
  have hd : isD s d = true := by
    unfold placeN at h
    by_cases h1 : isD s d = false
    · rw [if_pos h1] at h; cases h
    · simpa using h1
  rw [place_is hd] at h ⊢
  by_cases h1 : p = []
  · rw [if_pos h1] at h; cases h
  · rw [if_neg h1] at h ⊢
    by_cases h2 : lastN (stripN p) = [] ∨ lastN (stripN p) = [46] ∨ lastN (stripN p) = [46, 46]
    · rw [if_pos h2] at h; cases h
    · rw [if_neg h2] at h ⊢
      by_cases h3 : 256 < p.length ∨ 32 < (lastN (stripN p)).length
      · rw [if_pos h3] at h; cases h
      · rw [if_neg h3] at h ⊢
        have key : NmOk (lastN (stripN p)) := ⟨fun e => h2 (.inl e), fun e => h2 (.inr (.inl e)), fun e => h2 (.inr (.inr e)), by omega, last_no _⟩
        by_cases h4 : aheadN (stripN p) = []
        · rw [if_pos h4]; exact key
        · rw [if_neg h4]; exact key
theorem place_rng {s : NS} {n : Nat} (K : NOk s n) {d : Int} {p : List UInt8} (h : (placeN s d p).2.2 = 0) : 1 ≤ (placeN s d p).1 ∧ (placeN s d p).1 ≤ 1024 := K.rng (place_dir h)
theorem room_ok {s : NS} {d : Int} {p : List UInt8} (h : (roomN s d p).2.2 = 0) : roomN s d p = placeN s d p ∧ (placeN s d p).2.2 = 0 := by
  unfold roomN at h ⊢
  by_cases h1 : (placeN s d p).2.2 ≠ 0
  · rw [if_pos h1] at h; exact absurd h h1
  · rw [if_neg h1] at h ⊢
    by_cases h2 : 0 < findN s (placeN s d p).1 (placeN s d p).2.1
    · rw [if_pos h2] at h; cases h
    · rw [if_neg h2] at h ⊢
      by_cases h3 : namesOf (ndAt s.T (placeN s d p).1) = 0
      · rw [if_pos h3] at h; cases h
      · rw [if_neg h3]
        exact ⟨rfl, by simpa using h1⟩
theorem wr_pos {T T' : TB} {free : Nat} {i a N E : Int} {d : List UInt8} (h : WrSp T free i a d N E T') : 0 ≤ N := by
  cases h <;> omega
theorem forg_rng {par : Int → Int} (h : ∀ k, 0 ≤ par k ∧ par k ≤ 1024) (T : TB) (i : Int) : ∀ k, 0 ≤ forgP T i par k ∧ forgP T i par k ≤ 1024 := fun k => by
  unfold forgP
  split
  · exact ⟨Int.le_refl _, by decide⟩
  · exact h k
theorem up_forg {s : NS} (U : UpOk s) {T' : TB} {L' : List Nm} {i : Int} (h1 : ∀ k, k ≠ i → kdI T' k = kdI s.T k) (h2 : kdI T' i = kdI s.T i ∨ kdI T' i = 0) : UpOk ⟨T', L', forgP T' i s.par⟩ := by
  intro d hd
  have hd : kdI T' d = 2 := hd
  have hk : kdI s.T d = 2 := by
    by_cases e : d = i
    · subst e
      rcases h2 with h2 | h2
      · rw [← h2]; exact hd
      · rw [h2] at hd; cases hd
    · rw [← h1 d e]; exact hd
  show forgP T' i s.par d = 0 ∨ kdI T' (forgP T' i s.par d) = 2
  unfold forgP
  by_cases hc : kindOf (ndAt T' i) ≠ 2 ∧ s.par d = i
  · rw [if_pos hc]; exact .inl rfl
  · rw [if_neg hc]
    rcases U d hk with h3 | h3
    · exact .inl h3
    · refine .inr ?_
      by_cases e : s.par d = i
      · rw [e]
        by_cases h4 : kdI T' i = 2
        · exact h4
        · exact absurd ⟨h4, e⟩ hc
      · rw [h1 _ e]; exact h3
theorem up_same {s : NS} (U : UpOk s) {T' : TB} {L' : List Nm} (h : ∀ k, kdI T' k = kdI s.T k) : UpOk ⟨T', L', s.par⟩ := fun d hd => by
  have hd : kdI T' d = 2 := hd
  show s.par d = 0 ∨ kdI T' (s.par d) = 2
  rw [h] at hd ⊢
  exact U d hd
/-- Nothing stands in what is not there. -/
theorem up_no {s : NS} (U : UpOk s) {i d : Int} (hd : kdI s.T d = 2) (hi : kdI s.T i ≠ 2) (h0 : i ≠ 0) : s.par d ≠ i := fun e => by
  rcases U d hd with h | h
  · exact h0 (e.symm.trans h)
  · exact hi (by rw [← e]; exact h)
theorem up_or {s : NS} (U : UpOk s) {i d : Int} (hd : kdI s.T d = 2) (e : s.par d = i) : i = 0 ∨ kdI s.T i = 2 := by
  subst e
  exact U d hd
theorem ok_made {s s' : NS} {n : Nat} (K : NOk s n) {nb : Nat} {dir kind N E : Int} {p d : List UInt8} (h : MadeSp s nb dir p kind d N E s') (hkt : d ≠ [] → kind.toNat ≠ 2) : NOk s' (n + 1) := by
  have hi := keep_made K.inv h
  cases h with
  | bad => exact ⟨hi, K.gd.mono (Nat.le_succ _), K.max, K.nm, Nat.le_succ_of_le K.len, K.par, K.up⟩
  | nodes => exact ⟨hi, K.gd.mono (Nat.le_succ _), K.max, K.nm, Nat.le_succ_of_le K.len, K.par, K.up⟩
  | space N E T1 T2 h1 h2 h3 h4 h5 =>
    refine ⟨hi, good_unt (good_wr (by rw [h3]; exact good_tie (good_make K.gd _) _) h4) _, ?_, K.nm, Nat.le_succ_of_le K.len, K.par, ?_⟩
    · show (untT T2 _).length ≤ 1024
      rw [unt_len, wr_len h4, h3, tie_len, make_len]
      exact K.max
    · obtain ⟨a1, a2, a3⟩ := make_all h2
      obtain ⟨b0, b1, b2⟩ := made_all h2 h3 h4
      have hk0 : kdI s.T (makeN s.T kind) = 0 := by unfold kdI; rw [a1]; rfl
      have hk2 : kind.toNat ≠ 2 := hkt (fun e => by have := wr_pos h4; rw [e] at h5; simp at h5; omega)
      have h6 := (unt_kd T2 (makeN s.T kind) (makeN s.T kind)).2
      rw [b2, if_pos rfl] at h6
      have hne : ∀ k, k ≠ makeN s.T kind → kdI (untT T2 (makeN s.T kind)) k = kdI s.T k := fun k hk => by rw [(unt_kd T2 (makeN s.T kind) k).1 hk, b2, if_neg hk]
      intro c hc
      have hc : kdI (untT T2 (makeN s.T kind)) c = 2 := hc
      show s.par c = 0 ∨ kdI (untT T2 (makeN s.T kind)) (s.par c) = 2
      have hcn : c ≠ makeN s.T kind := fun e => by
        rw [e] at hc
        rcases h6 with h6 | h6
        · rw [h6] at hc; exact hk2 hc
        · rw [h6] at hc; cases hc
      rw [hne c hcn] at hc
      rcases K.up c hc with h7 | h7
      · exact .inl h7
      · refine .inr ?_
        rw [hne _ (fun e => by rw [e, hk0] at h7; cases h7)]
        exact h7
  | done N _ T1 T2 h1 h2 h3 h4 =>
    obtain ⟨e1, e2⟩ := room_ok h1
    refine ⟨hi, good_wr (by rw [h3]; exact good_tie (good_make K.gd _) _) h4, ?_, fun x hx => ?_, ?_, fun k => ?_, ?_⟩
    · show T2.length ≤ 1024
      rw [wr_len h4, h3, tie_len, make_len]
      exact K.max
    · rcases mem_put.1 hx with rfl | hx
      · show NmOk (roomN s dir p).2.1
        rw [e1]
        exact place_nm e2
      · exact K.nm x hx
    · show (putL _ _).length ≤ _
      rw [put_len']
      exact Nat.succ_le_succ K.len
    · show 0 ≤ parU _ _ _ k ∧ parU _ _ _ k ≤ 1024
      unfold parU
      split
      · rw [e1]
        have := place_rng K e2
        omega
      · exact K.par k
    · obtain ⟨a1, a2, a3⟩ := make_all h2
      obtain ⟨b0, b1, b2⟩ := made_all h2 h3 h4
      have hk0 : kdI s.T (makeN s.T kind) = 0 := by unfold kdI; rw [a1]; rfl
      have hr := (room_all K.inv h1).1
      intro c hc
      have hc : kdI T2 c = 2 := hc
      show parU s.par (makeN s.T kind) (roomN s dir p).1 c = 0 ∨ kdI T2 (parU s.par (makeN s.T kind) (roomN s dir p).1 c) = 2
      unfold parU
      by_cases e : c = makeN s.T kind
      · rw [if_pos e, b2, if_neg (fun e3 => by rw [e3, hk0] at hr; cases hr)]
        exact .inr hr
      · rw [if_neg e]
        rw [b2, if_neg e] at hc
        rcases K.up c hc with h7 | h7
        · exact .inl h7
        · refine .inr ?_
          rw [b2, if_neg (fun e3 => by rw [e3, hk0] at h7; cases h7)]
          exact h7
theorem quiet_ok {s : NS} {n m : Nat} (K : NOk s n) {T' : TB} (h : Quiet s.T T') (hg : TGood T' m) (hm : n ≤ m) (hl : T'.length = s.T.length) (hk : ∀ k, kdI T' k = kdI s.T k) : NOk { s with T := T' } m := ⟨K.inv.quiet h, hg, by show T'.length ≤ 1024; rw [hl]; exact K.max, K.nm, Nat.le_trans K.len hm, K.par, up_same K.up hk⟩
theorem NOk.mono {s : NS} {n m : Nat} (K : NOk s n) (hm : n ≤ m) : NOk s m := ⟨K.inv, K.gd.mono hm, K.max, K.nm, Nat.le_trans K.len hm, K.par, K.up⟩
theorem ok_gone {s : NS} {n : Nat} (K : NOk s n) {d : Int} {m : List UInt8} (h : findN s d m ≠ 0) (he : kdI s.T (findN s d m) = 2 → inN s (findN s d m) = []) : NOk (goneS s d m) n :=
  ⟨keep_gone K.inv h he, good_unt K.gd _, by show (untT _ _).length ≤ 1024; rw [unt_len]; exact K.max, fun x hx => K.nm x (mem_drop.1 hx).1, Nat.le_trans (drop_len _ _ _) K.len, forg_rng K.par _ _, up_forg K.up (fun k hk => (unt_kd s.T _ k).1 hk) (unt_kd s.T _ 0).2⟩
def looS (s : NS) (i : Int) : NS := ⟨looT s.T i, s.L, forgP (looT s.T i) i s.par⟩
theorem ok_loose {s : NS} {n : Nat} (K : NOk s n) (i : Int) : NOk (looS s i) n :=
  ⟨(K.inv.quiet (quiet_loo s.T i)).forg i, good_loo K.gd _, by show (looT _ _).length ≤ 1024; rw [loo_len]; exact K.max, K.nm, K.len, forg_rng K.par _ _, up_forg K.up (fun k hk => (loo_kd s.T i k).1 hk) (loo_kd s.T i 0).2⟩
theorem wr_err {T T' : TB} {free : Nat} {i N E : Int} {d : List UInt8} {x : Nd} (hx : ndAt T i = some x) (h : WrSp T free i 0 d N E T') (hN : (d.length : Int) ≤ N) : E = 0 := by
  cases h with
  | none h1 => rw [hx] at h1; cases h1
  | arg _ _ h1 => omega
  | empty => rfl
  | big _ _ h1 => omega
  | space y at' h1 h2 h3 h4 h5 =>
    have : d.length ≠ 0 := fun e => h4 (List.eq_nil_of_length_eq_zero e)
    omega
  | done => rfl

end Go.Proofs.YtemologkibcdoaaGreatDoor

/- Directories (stage 13): create. -/
namespace Go.Proofs.YtemologkibcdoaaGreatDoor
open Go.RowKit Go.Maps

/-- The table, and what its turn makes of all. -/
theorem GAt.tbl {w : World} {q nb : Nat} {Y : Nat → Prop} {T : TB} {L : List Nm} {par : Int → Int} {D : Int → Prop} (H : GAt w q Y T L par D nb) (hn : ∀ k, w.heap.size ≤ k → Y k) : ∃ (t : Nat) (X : Nat → Prop), w.cell? ⟨q, 0, none⟩ = some (.pointer (some ⟨t, 0, none⟩)) ∧ TAt w t X T nb ∧ (∀ j, w.heap.size ≤ j → X j) ∧ (∀ w' T', TAt w' t X T' nb → GrownS w w' X → GAt w' q Y T' L par D nb ∧ GrownS w w' Y) := by
  obtain ⟨t, dm, M, X, HL, HY⟩ := H
  exact ⟨t, Fresh w X, HL.nds.cell 0 rfl, HL.tab.mono (fun _ _ h => .inl h), fun j hj => .inr hj, fun w' T' h1 h2 => GAt.table HL HY hn h1 h2⟩

theorem make_rng {T : TB} {k : Int} (h : makeE T k = 0) (hl : T.length ≤ 1024) : 1 ≤ makeN T k ∧ makeN T k ≤ 1024 := by
  unfold makeE at h
  unfold makeN
  by_cases h1 : kindOk k = true
  · rw [if_pos h1] at h
    by_cases h2 : frAt T < T.length
    · simp [h1, h2]
      omega
    · rw [if_neg h2] at h; cases h
  · rw [if_neg h1] at h; cases h
theorem makeT_no {T : TB} {k : Int} (h : makeE T k ≠ 0) : makeT T k = T ∧ makeN T k = 0 := by
  unfold makeE at h
  unfold makeT makeN
  by_cases h1 : kindOk k = true
  · rw [if_pos h1] at h
    by_cases h2 : frAt T < T.length
    · rw [if_pos h2] at h; exact absurd rfl h
    · simp [h1, h2]
  · simp [h1]
/-- What create leaves. -/
def Made (w w' : World) (q : Nat) (Y : Nat → Prop) (s : NS) (nb : Nat) (d : Int) (p : List UInt8) (kind : Int) (tx : List UInt8) (N E : Int) : Prop := ∃ s', MadeSp s nb d p kind tx N E s' ∧ NdAt w' q Y s' nb ∧ GrownS w w' Y
theorem made_end {w' : World} {q nb : Nat} {Y : Nat → Prop} {s : NS} {kind : Int} {T1 T2 : TB} {N E : Int} {tx : List UInt8} {free : Nat} {x : Nm} (hU : UpOk s) (h2 : makeE s.T kind = 0) (h3 : T1 = tieT (makeT s.T kind) (makeN s.T kind)) (h4 : WrSp T1 free (makeN s.T kind) 0 tx N E T2) :
    (kind.toNat ≠ 2 → GAt w' q Y T2 (putL s.L x) s.par (fun d => kdI s.T d = 2) nb → NdAt w' q Y ⟨T2, putL s.L x, parU s.par (makeN s.T kind) x.dir⟩ nb) ∧
    (kind.toNat = 2 → GAt w' q Y T2 (putL s.L x) (parU s.par (makeN s.T kind) x.dir) (fun k => k = makeN s.T kind ∨ kdI s.T k = 2) nb → NdAt w' q Y ⟨T2, putL s.L x, parU s.par (makeN s.T kind) x.dir⟩ nb) ∧
    (kind.toNat ≠ 2 → (∀ y ∈ s.L, ¬ (y.dir = x.dir ∧ y.name = x.name)) → GAt w' q Y (untT T2 (makeN s.T kind)) (dropL (putL s.L x) x.dir x.name) (forgP (untT T2 (makeN s.T kind)) (makeN s.T kind) s.par) (keepD (untT T2 (makeN s.T kind)) (makeN s.T kind) (fun d => kdI s.T d = 2)) nb → NdAt w' q Y { s with T := untT T2 (makeN s.T kind) } nb) := by
  obtain ⟨a1, a2, a3⟩ := make_all h2
  obtain ⟨b0, b1, b2⟩ := made_all h2 h3 h4
  have hk0 : kdI s.T (makeN s.T kind) = 0 := by unfold kdI; rw [a1]; rfl
  refine ⟨fun hk hg => ?_, fun hk hg => ?_, fun hk hno hg => ?_⟩
  · refine GAt.toN (hg.par (fun d hd => if_neg (fun e => by rw [e, hk0] at hd; cases hd))) (fun d => ?_)
    rw [b2]
    by_cases e : d = makeN s.T kind
    · rw [if_pos e, e, hk0]
      exact ⟨fun h => (by cases h), fun h => absurd h hk⟩
    · rw [if_neg e]
  · refine GAt.toN hg (fun d => ?_)
    rw [b2]
    by_cases e : d = makeN s.T kind
    · rw [if_pos e]
      exact ⟨fun _ => hk, fun _ => .inl e⟩
    · rw [if_neg e]
      exact ⟨fun h => h.resolve_left e, .inr⟩
  · rw [drop_put hno] at hg
    refine GAt.toN (hg.par (fun d hd => ?_)) (fun d => ?_)
    · have h1 : kdI s.T d = 2 := hd.1
      show s.par d = forgP _ _ s.par d
      unfold forgP
      rw [if_neg (fun e => up_no hU h1 (by rw [hk0]; decide) (by omega) e.2)]
    by_cases e : d = makeN s.T kind
    · have h5 := (unt_kd T2 (makeN s.T kind) d).2
      rw [b2, if_pos rfl] at h5
      unfold keepD
      rw [e]
      refine ⟨fun h => ?_, fun h => ?_⟩
      · have h6 : kdI s.T (makeN s.T kind) = 2 := h.1
        rw [hk0] at h6
        cases h6
      rcases h5 with h5 | h5
      · rw [h5] at h; exact absurd h hk
      · rw [h5] at h; cases h
    · rw [(unt_kd T2 (makeN s.T kind) d).1 e, b2, if_neg e]
      exact ⟨fun h => h.1, fun h => ⟨h, fun _ => e⟩⟩
set_option maxRecDepth 20000 in
set_option maxHeartbeats 4000000 in
theorem create_any {w : World} {q nb n : Nat} {B : Bas} {Y : Nat → Prop} {s : NS} (H : NdX w q Y s nb n B) (hn : ∀ k, w.heap.size ≤ k → Y k) (hnn : n ≤ 100000) (d : Int) (p : List UInt8) (kind : Int) (tx : List UInt8) (h0 : 0 ≤ d) (h1 : d ≤ 1024) (hp : p.length ≤ 100000) (hd : isD s d = true) (htx : tx.length ≤ 100000) (hkt : tx ≠ [] → kind.toNat ≠ 2) (hk1 : 1 ≤ kind ∧ kind ≤ 3) : Calls Tryz.prog 139 #[.pointer (some ⟨q, 0, none⟩), .int .i64 d, .string (BA p), .int .i64 kind, .string (BA tx)] w fun e w' => ∃ N E, e = .returned (.tuple #[.int .i64 N, .int .i64 E]) ∧ Hid (Made w w' q Y s nb d p kind tx N E) := by
  have HNP := hide (newPlace_any H d p h0 h1 hp hd)
  obtain ⟨FN, hFN⟩ : ∃ FN : World → Int → Int → Prop, FN = fun w' N E => Made w w' q Y s nb d p kind tx N E := ⟨_, rfl⟩
  have HFN : Hid (∀ w' N E, Made w w' q Y s nb d p kind tx N E → FN w' N E) := hide (fun w' N E h => by rw [hFN]; exact h)
  have HFX : Hid (∀ w' N E, FN w' N E = Made w w' q Y s nb d p kind tx N E) := hide (fun w' N E => by rw [hFN])
  simp only [← unhide HFX]
  have HH := hide H
  have HNN := hide hn
  have HKT := hide hkt
  clear hFN H hn hkt HFX
  go_enter Tryz.func139, Tryz.ntmps139
  go_wp2_with fail
  refine (unhide HNP).mono ?_
  rintro e w2 ⟨N, t, E, rfl, HP⟩
  have hbw3 : Below w2.heap.size w2 (w2.alloc (.cells #[.int .i64 N, .string (BA t)] 85)) := (Below.refl _ w2).alloc (Nat.le_refl _) _
  have HB3 := hide ((unhide HP).2.trans (hbw3.mono (unhide HP).2.size))
  have HA3 := hide (Blk.new w2 85 #[.int .i64 N, .string (BA t)])
  have HPI := hide (unhide HP).1
  have hN0 := (unhide HPI).2.2.2.1
  have hN1 := (unhide HPI).2.2.2.2
  have htl := (unhide HPI).2.2.1
  by_cases hE : E = 0
  · subst hE
    have HRO : Hid ((roomN s d p).2.2 = 0) := hide (unhide HPI).1.symm
    have HR1 := hide ((unhide HPI).2.1 (unhide HRO))
    obtain ⟨W3, hW3⟩ : ∃ W3, W3 = w2.alloc (.cells #[.int .i64 N, .string (BA t)] 85) := ⟨_, rfl⟩
    rw [← hW3] at HB3 HA3
    obtain ⟨ab, hab⟩ : ∃ ab, ab = w2.heap.size := ⟨_, rfl⟩
    have hab2 : ab < W3.heap.size := by rw [hab]; exact (unhide HA3).lt
    rw [← hab] at HA3
    obtain ⟨Z, hZ⟩ : ∃ Z : Nat → Prop, Z = fun k => Upto w Y k ∨ W3.heap.size ≤ k := ⟨_, rfl⟩
    have HZA : Hid (¬ Z ab) := hide (by
      rw [hZ]
      rintro (h | h)
      · have h2 := h.2
        have h3 := (unhide HP).2.size
        omega
      · omega)
    have HZY : Hid (∀ k, Z k → Y k) := hide (by
      rw [hZ]
      rintro k (h | h)
      · exact h.1
      · exact unhide HNN k (Nat.le_trans (unhide HB3).size h))
    have HZN : Hid (∀ k, W3.heap.size ≤ k → Z k) := hide (by rw [hZ]; exact fun k h => .inr h)
    have HG3 : Hid (GAt W3 q Z s.T s.L s.par (fun d => kdI s.T d = 2) nb) := hide (((((unhide HH).tight).below (unhide HB3)).at'.toG (unhide HH).ok).mono (by rw [hZ]; exact fun k _ h => .inl h))
    obtain ⟨tt, X, c0, htab, hX, hturn⟩ := (unhide HG3).tbl (unhide HZN)
    have HMK := hide (tmake_any htab kind hX)
    have HTU := hide hturn
    clear hZ htab hX hturn HNP hbw3 HNN HPI HP
    subst hW3
    subst hab
    go_wp2_with fail
    refine (unhide HMK).mono ?_
    rintro e w4 ⟨rfl, k1, k2⟩
    have HG4 := hide (unhide HTU w4 _ k1 k2)
    have HA4 := hide ((unhide HA3).grownS (unhide HG4).2 (unhide HZA))
    obtain ⟨W3, hW3⟩ : ∃ W3, W3 = w2.alloc (.cells #[.int .i64 N, .string (BA t)] 85) := ⟨_, rfl⟩
    rw [← hW3] at HG4 HB3 HZN
    have HN4 : Hid (∀ k, w4.heap.size ≤ k → Z k) := hide (fun k hk => unhide HZN k (Nat.le_trans (unhide HG4).2.size hk))
    obtain ⟨ab, hab⟩ : ∃ ab, ab = w2.heap.size := ⟨_, rfl⟩
    rw [← hab] at HA4 HZA ⊢
    have ca : w4.cell? ⟨ab, 0, none⟩ = some (.int .i64 N) := (unhide HA4).cell 0 rfl
    have cb : w4.cell? ⟨ab, 1, none⟩ = some (.string (BA t)) := (unhide HA4).cell 1 rfl
    clear k1 k2 HMK c0 HTU hW3 hab hab2 HA3 HG3
    by_cases hmk : makeE s.T kind = 0
    · have HMR := hide (make_rng hmk (unhide HH).ok.max)
      have HMA := hide (make_all hmk)
      have HMK := hide hmk
      have hrm := room_all (unhide HH).ok.inv (unhide HRO)
      rw [← (unhide HR1).1, ← (unhide HR1).2] at hrm
      obtain ⟨i, hi⟩ : ∃ i, i = makeN s.T kind := ⟨_, rfl⟩
      have HI := hide hi
      rw [← hi] at HMR HMA
      rw [hmk, ← hi]
      obtain ⟨x, hx⟩ : ∃ x : Nm, x = ⟨N, t, i⟩ := ⟨_, rfl⟩
      have hTG : TGood (makeT s.T kind) 100000 := (good_make (unhide HH).ok.gd kind).mono hnn
      have HTI := hide (tie_any (unhide HG4).1 (unhide HN4) x (by rw [hx]; exact hrm.1) (unhide HH).ok.inv.srt (by rw [hx]; exact hrm.2.2) (by rw [hx]; show t.length ≤ 1000000; omega) (by have := (unhide HH).ok.len; omega) (by rw [hx]; have := unhide HMR; show _ ≤ i ∧ i ≤ _; omega) (fun k y hy => Nat.le_trans (hTG k y hy).2.1 (by decide)))
      have HNO : Hid (∀ y ∈ s.L, ¬ (y.dir = N ∧ y.name = t)) := hide hrm.2.2
      have HRD : Hid (kdI s.T N = 2) := hide hrm.1
      have HTG := hide hTG
      have HX := hide hx
      rw [hx] at HTI
      clear hx hrm hTG hi hmk
      go_wp2_with fail
      refine (unhide HTI).mono ?_
      rintro e w5 ⟨rfl, HG5⟩
      have HA5 := hide ((unhide HA4).grownS (unhide HG5).2 (unhide HZA))
      have HN5 : Hid (∀ k, w5.heap.size ≤ k → Z k) := hide (fun k hk => unhide HN4 k (Nat.le_trans (unhide HG5).2.size hk))
      obtain ⟨tt, X, c0, htab, hX, hturn⟩ := (unhide HG5).1.tbl (unhide HN5)
      have HTG2 : Hid (TGood (tieT (makeT s.T kind) i) 100001) := hide (good_tie (unhide HTG) i)
      have HWR := hide (twrite_any htab (fun k y hy => (unhide HTG2 k y hy).1.size) i 0 tx (by have := unhide HMR; omega) (by decide) (by omega))
      have HTU := hide hturn
      clear ca cb htab hX hturn HTI
      have ca : w5.cell? ⟨ab, 0, none⟩ = some (.int .i64 N) := (unhide HA5).cell 0 rfl
      have cb : w5.cell? ⟨ab, 1, none⟩ = some (.string (BA t)) := (unhide HA5).cell 1 rfl
      go_wp2_with fail
      refine (unhide HWR).mono ?_
      rintro e w6 ⟨NW, EW, rfl, HWL⟩
      obtain ⟨T2, hwr, hta, hgr⟩ := unhide HWL
      have HG6 := hide (unhide HTU w6 _ hta hgr)
      have HA6 := hide ((unhide HA5).grownS (unhide HG6).2 (unhide HZA))
      have HN6 : Hid (∀ k, w6.heap.size ≤ k → Z k) := hide (fun k hk => unhide HN5 k (Nat.le_trans (unhide HG6).2.size hk))
      have HGW : Hid (GrownS w w6 Y) := hide ((grownS_of_below (unhide HB3)).trans ((((unhide HG4).2.trans (unhide HG5).2).trans (unhide HG6).2).mono (fun k _ h => unhide HZY k h)))
      have HI1 : Hid (tieT (makeT s.T kind) i = tieT (makeT s.T kind) (makeN s.T kind)) := hide (by rw [← unhide HI])
      have HWS : Hid (WrSp (tieT (makeT s.T kind) i) (nb - usedT (tieT (makeT s.T kind) i)) (makeN s.T kind) 0 tx NW EW T2) := hide (by rw [← unhide HI]; exact hwr)
      have HG2 : Hid (TGood T2 100001) := hide (good_wr (unhide HTG2) hwr)
      have hNW := wr_pos hwr
      have HEW : Hid ((tx.length : Int) ≤ NW → EW = 0) := hide (fun h => by
        have hx : ndAt (tieT (makeT s.T kind) i) i = some (tieN (nd0 kind.toNat)) := by
          have h1 : ndAt (makeT s.T kind) i = some (nd0 kind.toNat) := by rw [(unhide HMA).2.2, if_pos rfl]
          unfold tieT
          rw [h1]
          dsimp only
          rw [set_nd h1, if_pos rfl]
        exact wr_err hx hwr h)
      have HK0 : Hid (kdI s.T i = 0) := hide (by unfold kdI; rw [(unhide HMA).1]; rfl)
      clear hwr hta hgr HWL HWR HTU ca cb c0
      have ca : w6.cell? ⟨ab, 0, none⟩ = some (.int .i64 N) := (unhide HA6).cell 0 rfl
      have cb : w6.cell? ⟨ab, 1, none⟩ = some (.string (BA t)) := (unhide HA6).cell 1 rfl
      by_cases hlt : NW < (tx.length : Int)
      · have HUN := hide (untie_any (unhide HG6).1 (unhide HN6) N t i (fun k hk e => up_or (unhide HH).ok.up hk e) (unhide HRD) (by omega) (by have := unhide HMR; omega) (fun k y hy => Nat.le_trans (unhide HG2 k y hy).2.1 (by decide)))
        have hk2 : kind.toNat ≠ 2 := unhide HKT (fun e => by rw [e] at hlt; simp at hlt; omega)
        have HF : Hid (∀ w7, GAt w7 q Z (untT T2 i) (dropL (putL s.L ⟨N, t, i⟩) N t) (forgP (untT T2 i) i s.par) (keepD (untT T2 i) i (fun d => kdI s.T d = 2)) nb → GrownS w6 w7 Z → FN w7 0 20) := hide (fun w7 g1 g2 => unhide HFN _ _ _ ⟨_, .space NW EW _ T2 (unhide HRO) (unhide HMK) (unhide HI1) (unhide HWS) hlt, by
          have := (made_end (w' := w7) (q := q) (nb := nb) (Y := Z) (s := s) (x := ⟨N, t, i⟩) (unhide HH).ok.up (unhide HMK) (unhide HI1) (unhide HWS)).2.2 hk2 (unhide HNO) (by rw [← unhide HI]; exact g1)
          exact this.mono (fun k _ h => unhide HZY k h), (unhide HGW).trans (g2.mono (fun k _ h => unhide HZY k h))⟩)
        go_wp2_with fail
        refine (unhide HUN).mono ?_
        rintro e w7 ⟨rfl, HG7⟩
        have HR := hide (unhide HF w7 (unhide HG7).1 (unhide HG7).2)
        clear HUN HF ca cb
        go_wp2_with fail
        go_ret2
        exact ⟨_, _, rfl, HR⟩
      · have hE0 := unhide HEW (by omega)
        subst hE0
        have HLE : Hid ((tx.length : Int) ≤ NW) := hide (by omega)
        have HF : Hid (∀ w7, NdAt w7 q Z ⟨T2, putL s.L ⟨N, t, i⟩, parU s.par (makeN s.T kind) N⟩ nb → GrownS w6 w7 Z → FN w7 i 0) := hide (fun w7 g1 g2 => unhide HFN _ _ _ ⟨_, by
          rw [unhide HI]
          exact .done NW 0 _ T2 (unhide HRO) (unhide HMK) (unhide HI1) (unhide HWS) (unhide HLE), by
          rw [← (unhide HR1).1, ← (unhide HR1).2, ← unhide HI]
          rw [← unhide HI] at g1
          exact g1.mono (fun k _ h => unhide HZY k h), (unhide HGW).trans (g2.mono (fun k _ h => unhide HZY k h))⟩)
        by_cases hk2 : kind = 2
        · have HOP := hide (open_any (unhide HG6).1 (unhide HN6) i N (unhide HMR) (fun y hy e => by
            have hkk : kdI s.T y.dir = 2 := by
              rcases mem_put.1 hy with rfl | hy
              · exact unhide HRD
              · exact ((unhide HH).ok.inv.dirs y hy).1
            rw [e, unhide HK0] at hkk
            cases hkk))
          have HKK : Hid (kind.toNat = 2) := hide (by rw [hk2]; rfl)
          have hk3 : (kind == 2) = true := by rw [hk2]; rfl
          clear hk2
          go_wp2_with fail
          refine (unhide HOP).mono ?_
          rintro e w7 ⟨rfl, HG7⟩
          have HR := hide (unhide HF w7 ((made_end (w' := w7) (q := q) (nb := nb) (Y := Z) (s := s) (x := ⟨N, t, i⟩) (unhide HH).ok.up (unhide HMK) (unhide HI1) (unhide HWS)).2.1 (unhide HKK) (by rw [← unhide HI]; exact (unhide HG7).1)) (unhide HG7).2)
          clear HOP HF ca cb
          go_wp2_with fail
          go_ret2
          exact ⟨_, _, rfl, HR⟩
        · have HR := hide (unhide HF w6 ((made_end (w' := w6) (q := q) (nb := nb) (Y := Z) (s := s) (x := ⟨N, t, i⟩) (unhide HH).ok.up (unhide HMK) (unhide HI1) (unhide HWS)).1 (by omega) (unhide HG6).1) (grownS_of_below (Below.refl _ _)))
          have hk3 : (kind == 2) = false := by rw [beq_eq_false_iff_ne]; exact hk2
          clear hk2
          go_wp2_with fail
          go_ret2
          exact ⟨_, _, rfl, HR⟩
    · have HNO := hide (makeT_no hmk)
      have HR : Hid (FN w4 0 (makeE s.T kind)) := hide (unhide HFN _ _ _ ⟨s, .nodes (unhide HRO) hmk, (GAt.toN (L := s.L) (par := s.par) (by have := (unhide HG4).1; rw [(unhide HNO).1] at this; exact this) (fun _ => Iff.rfl)).mono (fun k _ h => unhide HZY k h), (grownS_of_below (unhide HB3)).trans ((unhide HG4).2.mono (fun k _ h => unhide HZY k h))⟩)
      have hE1 : (makeE s.T kind != 0) = true := by simpa using hmk
      obtain ⟨E, hE⟩ : ∃ E, E = makeE s.T kind := ⟨_, rfl⟩
      obtain ⟨i, hi⟩ : ∃ i, i = makeN s.T kind := ⟨_, rfl⟩
      rw [← hE, ← hi]
      rw [← hE] at HR hE1
      clear hmk hE hi
      go_wp2_with fail
      go_ret2
      exact ⟨_, _, rfl, HR⟩
  · have hE1 : (E != 0) = true := by simpa using hE
    have HR : Hid (FN (w2.alloc (.cells #[.int .i64 N, .string (BA t)] 85)) 0 E) := hide (unhide HFN _ _ _ ⟨s, by
      have h := (unhide HPI).1
      rw [h]
      exact .bad (by rw [← h]; exact hE), ((unhide HH).below (unhide HB3)).at', grownS_of_below (unhide HB3)⟩)
    clear hE hbw3
    go_wp2_with fail
    go_ret2
    exact ⟨_, _, rfl, HR⟩

end Go.Proofs.YtemologkibcdoaaGreatDoor

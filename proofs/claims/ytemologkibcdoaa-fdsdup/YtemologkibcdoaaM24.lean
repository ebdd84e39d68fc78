/-
  Directories (stage 13): what calls leave is as it should be.
  Directories (stage 13): create.
-/
import Derived.Test.YtemologkibcdoaaM23

/- Directories (stage 13): what calls leave is as it should be. -/
namespace Go.Proofs.Ytemologkibcdoaa
open Go.RowKit Go.Maps

theorem unt_kd (T : TB) (i k : Int) : (k ≠ i → kdI (untT T i) k = kdI T k) ∧ (kdI (untT T i) i = kdI T i ∨ kdI (untT T i) i = 0) := by
  unfold untT
  cases hx : ndAt T i with
  | none => exact ⟨fun _ => rfl, .inl rfl⟩
  | some x =>
    dsimp only
    split
    · exact ⟨fun _ => rfl, .inl rfl⟩
    · unfold kdI
      rw [set_nd hx, set_nd hx, if_pos rfl, hx]
      refine ⟨fun h => by rw [if_neg h], ?_⟩
      unfold leftN
      split
      · exact .inr rfl
      · exact .inl rfl
theorem loo_kd (T : TB) (i k : Int) : (k ≠ i → kdI (looT T i) k = kdI T k) ∧ (kdI (looT T i) i = kdI T i ∨ kdI (looT T i) i = 0) := by
  unfold looT
  cases hx : ndAt T i with
  | none => exact ⟨fun _ => rfl, .inl rfl⟩
  | some x =>
    dsimp only
    split
    · exact ⟨fun _ => rfl, .inl rfl⟩
    · unfold kdI
      rw [set_nd hx, set_nd hx, if_pos rfl, hx]
      refine ⟨fun h => by rw [if_neg h], ?_⟩
      unfold leftN
      split
      · exact .inr rfl
      · exact .inl rfl
theorem make_len (T : TB) (k : Int) : (makeT T k).length = T.length := by unfold makeT; split <;> simp
theorem tie_len (T : TB) (k : Int) : (tieT T k).length = T.length := by unfold tieT; split <;> simp
theorem hold_len (T : TB) (k : Int) : (holdT T k).length = T.length := by unfold holdT; split <;> simp
theorem unt_len (T : TB) (k : Int) : (untT T k).length = T.length := by
  unfold untT
  split
  · rfl
  · split <;> simp
theorem loo_len (T : TB) (k : Int) : (looT T k).length = T.length := by
  unfold looT
  split
  · rfl
  · split <;> simp
theorem wr_len {T T' : TB} {free : Nat} {i a N E : Int} {d : List UInt8} (h : WrSp T free i a d N E T') : T'.length = T.length := by
  cases h <;> simp
theorem put_len' (L : List Nm) (x : Nm) : (putL L x).length = L.length + 1 := by
  have h := count_put (L := L) (x := x) (fun _ => true)
  simpa using h
theorem drop_len (L : List Nm) (d : Int) (n : List UInt8) : (dropL L d n).length ≤ L.length := List.length_filter_le _ _
theorem place_nm {s : NS} {d : Int} {p : List UInt8} (h : (placeN s d p).2.2 = 0) : NmOk (placeN s d p).2.1 := by
  have hd : isD s d = true := by
    unfold placeN at h
    by_cases h1 : isD s d = false
    · rw [if_pos h1] at h; cases h
    · simpa using h1
  rw [place_is hd] at h ⊢
  by_cases h1 : p = []
  · rw [if_pos h1] at h; cases h
  · rw [if_neg h1] at h ⊢
    by_cases h2 : lastN (stripN p) = [] ∨ lastN (stripN p) = [46] ∨ lastN (stripN p) = [46, 46]
    · rw [if_pos h2] at h; cases h
    · rw [if_neg h2] at h ⊢
      by_cases h3 : 256 < p.length ∨ 32 < (lastN (stripN p)).length
      · rw [if_pos h3] at h; cases h
      · rw [if_neg h3] at h ⊢
        have key : NmOk (lastN (stripN p)) := ⟨fun e => h2 (.inl e), fun e => h2 (.inr (.inl e)), fun e => h2 (.inr (.inr e)), by omega, last_no _⟩
        by_cases h4 : aheadN (stripN p) = []
        · rw [if_pos h4]; exact key
        · rw [if_neg h4]; exact key
theorem place_rng {s : NS} {n : Nat} (K : NOk s n) {d : Int} {p : List UInt8} (h : (placeN s d p).2.2 = 0) : 1 ≤ (placeN s d p).1 ∧ (placeN s d p).1 ≤ 1024 := K.rng (place_dir h)
theorem room_ok {s : NS} {d : Int} {p : List UInt8} (h : (roomN s d p).2.2 = 0) : roomN s d p = placeN s d p ∧ (placeN s d p).2.2 = 0 := by
  unfold roomN at h ⊢
  by_cases h1 : (placeN s d p).2.2 ≠ 0
  · rw [if_pos h1] at h; exact absurd h h1
  · rw [if_neg h1] at h ⊢
    by_cases h2 : 0 < findN s (placeN s d p).1 (placeN s d p).2.1
    · rw [if_pos h2] at h; cases h
    · rw [if_neg h2] at h ⊢
      by_cases h3 : namesOf (ndAt s.T (placeN s d p).1) = 0
      · rw [if_pos h3] at h; cases h
      · rw [if_neg h3]
        exact ⟨rfl, by simpa using h1⟩
theorem wr_pos {T T' : TB} {free : Nat} {i a N E : Int} {d : List UInt8} (h : WrSp T free i a d N E T') : 0 ≤ N := by
  cases h <;> omega
theorem forg_rng {par : Int → Int} (h : ∀ k, 0 ≤ par k ∧ par k ≤ 1024) (T : TB) (i : Int) : ∀ k, 0 ≤ forgP T i par k ∧ forgP T i par k ≤ 1024 := fun k => by
  unfold forgP
  split
  · exact ⟨Int.le_refl _, by decide⟩
  · exact h k
theorem up_forg {s : NS} (U : UpOk s) {T' : TB} {L' : List Nm} {i : Int} (h1 : ∀ k, k ≠ i → kdI T' k = kdI s.T k) (h2 : kdI T' i = kdI s.T i ∨ kdI T' i = 0) : UpOk ⟨T', L', forgP T' i s.par⟩ := by
  intro d hd
  have hd : kdI T' d = 2 := hd
  have hk : kdI s.T d = 2 := by
    by_cases e : d = i
    · subst e
      rcases h2 with h2 | h2
      · rw [← h2]; exact hd
      · rw [h2] at hd; cases hd
    · rw [← h1 d e]; exact hd
  show forgP T' i s.par d = 0 ∨ kdI T' (forgP T' i s.par d) = 2
  unfold forgP
  by_cases hc : kindOf (ndAt T' i) ≠ 2 ∧ s.par d = i
  · rw [if_pos hc]; exact .inl rfl
  · rw [if_neg hc]
    rcases U d hk with h3 | h3
    · exact .inl h3
    · refine .inr ?_
      by_cases e : s.par d = i
      · rw [e]
        by_cases h4 : kdI T' i = 2
        · exact h4
        · exact absurd ⟨h4, e⟩ hc
      · rw [h1 _ e]; exact h3
theorem up_same {s : NS} (U : UpOk s) {T' : TB} {L' : List Nm} (h : ∀ k, kdI T' k = kdI s.T k) : UpOk ⟨T', L', s.par⟩ := fun d hd => by
  have hd : kdI T' d = 2 := hd
  show s.par d = 0 ∨ kdI T' (s.par d) = 2
  rw [h] at hd ⊢
  exact U d hd
/-- Nothing stands in what is not there. -/
theorem up_no {s : NS} (U : UpOk s) {i d : Int} (hd : kdI s.T d = 2) (hi : kdI s.T i ≠ 2) (h0 : i ≠ 0) : s.par d ≠ i := fun e => by
  rcases U d hd with h | h
  · exact h0 (e.symm.trans h)
  · exact hi (by rw [← e]; exact h)
theorem up_or {s : NS} (U : UpOk s) {i d : Int} (hd : kdI s.T d = 2) (e : s.par d = i) : i = 0 ∨ kdI s.T i = 2 := by
  subst e
  exact U d hd
theorem ok_made {s s' : NS} {n : Nat} (K : NOk s n) {nb : Nat} {dir kind N E : Int} {p d : List UInt8} (h : MadeSp s nb dir p kind d N E s') (hkt : d ≠ [] → kind.toNat ≠ 2) : NOk s' (n + 1) := by
  have hi := keep_made K.inv h
  cases h with
  | bad => exact ⟨hi, K.gd.mono (Nat.le_succ _), K.max, K.nm, Nat.le_succ_of_le K.len, K.par, K.up⟩
  | nodes => exact ⟨hi, K.gd.mono (Nat.le_succ _), K.max, K.nm, Nat.le_succ_of_le K.len, K.par, K.up⟩
  | space N E T1 T2 h1 h2 h3 h4 h5 =>
    refine ⟨hi, good_unt (good_wr (by rw [h3]; exact good_tie (good_make K.gd _) _) h4) _, ?_, K.nm, Nat.le_succ_of_le K.len, K.par, ?_⟩
    · show (untT T2 _).length ≤ 1024
      rw [unt_len, wr_len h4, h3, tie_len, make_len]
      exact K.max
    · obtain ⟨a1, a2, a3⟩ := make_all h2
      obtain ⟨b0, b1, b2⟩ := made_all h2 h3 h4
      have hk0 : kdI s.T (makeN s.T kind) = 0 := by unfold kdI; rw [a1]; rfl
      have hk2 : kind.toNat ≠ 2 := hkt (fun e => by have := wr_pos h4; rw [e] at h5; simp at h5; omega)
      have h6 := (unt_kd T2 (makeN s.T kind) (makeN s.T kind)).2
      rw [b2, if_pos rfl] at h6
      have hne : ∀ k, k ≠ makeN s.T kind → kdI (untT T2 (makeN s.T kind)) k = kdI s.T k := fun k hk => by rw [(unt_kd T2 (makeN s.T kind) k).1 hk, b2, if_neg hk]
      intro c hc
      have hc : kdI (untT T2 (makeN s.T kind)) c = 2 := hc
      show s.par c = 0 ∨ kdI (untT T2 (makeN s.T kind)) (s.par c) = 2
      have hcn : c ≠ makeN s.T kind := fun e => by
        rw [e] at hc
        rcases h6 with h6 | h6
        · rw [h6] at hc; exact hk2 hc
        · rw [h6] at hc; cases hc
      rw [hne c hcn] at hc
      rcases K.up c hc with h7 | h7
      · exact .inl h7
      · refine .inr ?_
        rw [hne _ (fun e => by rw [e, hk0] at h7; cases h7)]
        exact h7
  | done N _ T1 T2 h1 h2 h3 h4 =>
    obtain ⟨e1, e2⟩ := room_ok h1
    refine ⟨hi, good_wr (by rw [h3]; exact good_tie (good_make K.gd _) _) h4, ?_, fun x hx => ?_, ?_, fun k => ?_, ?_⟩
    · show T2.length ≤ 1024
      rw [wr_len h4, h3, tie_len, make_len]
      exact K.max
    · rcases mem_put.1 hx with rfl | hx
      · show NmOk (roomN s dir p).2.1
        rw [e1]
        exact place_nm e2
      · exact K.nm x hx
    · show (putL _ _).length ≤ _
      rw [put_len']
      exact Nat.succ_le_succ K.len
    · show 0 ≤ parU _ _ _ k ∧ parU _ _ _ k ≤ 1024
      unfold parU
      split
      · rw [e1]
        have := place_rng K e2
        omega
      · exact K.par k
    · obtain ⟨a1, a2, a3⟩ := make_all h2
      obtain ⟨b0, b1, b2⟩ := made_all h2 h3 h4
      have hk0 : kdI s.T (makeN s.T kind) = 0 := by unfold kdI; rw [a1]; rfl
      have hr := (room_all K.inv h1).1
      intro c hc
      have hc : kdI T2 c = 2 := hc
      show parU s.par (makeN s.T kind) (roomN s dir p).1 c = 0 ∨ kdI T2 (parU s.par (makeN s.T kind) (roomN s dir p).1 c) = 2
      unfold parU
      by_cases e : c = makeN s.T kind
      · rw [if_pos e, b2, if_neg (fun e3 => by rw [e3, hk0] at hr; cases hr)]
        exact .inr hr
      · rw [if_neg e]
        rw [b2, if_neg e] at hc
        rcases K.up c hc with h7 | h7
        · exact .inl h7
        · refine .inr ?_
          rw [b2, if_neg (fun e3 => by rw [e3, hk0] at h7; cases h7)]
          exact h7
theorem quiet_ok {s : NS} {n m : Nat} (K : NOk s n) {T' : TB} (h : Quiet s.T T') (hg : TGood T' m) (hm : n ≤ m) (hl : T'.length = s.T.length) (hk : ∀ k, kdI T' k = kdI s.T k) : NOk { s with T := T' } m := ⟨K.inv.quiet h, hg, by show T'.length ≤ 1024; rw [hl]; exact K.max, K.nm, Nat.le_trans K.len hm, K.par, up_same K.up hk⟩
theorem NOk.mono {s : NS} {n m : Nat} (K : NOk s n) (hm : n ≤ m) : NOk s m := ⟨K.inv, K.gd.mono hm, K.max, K.nm, Nat.le_trans K.len hm, K.par, K.up⟩
theorem ok_gone {s : NS} {n : Nat} (K : NOk s n) {d : Int} {m : List UInt8} (h : findN s d m ≠ 0) (he : kdI s.T (findN s d m) = 2 → inN s (findN s d m) = []) : NOk (goneS s d m) n :=
  ⟨keep_gone K.inv h he, good_unt K.gd _, by show (untT _ _).length ≤ 1024; rw [unt_len]; exact K.max, fun x hx => K.nm x (mem_drop.1 hx).1, Nat.le_trans (drop_len _ _ _) K.len, forg_rng K.par _ _, up_forg K.up (fun k hk => (unt_kd s.T _ k).1 hk) (unt_kd s.T _ 0).2⟩
def looS (s : NS) (i : Int) : NS := ⟨looT s.T i, s.L, forgP (looT s.T i) i s.par⟩
theorem ok_loose {s : NS} {n : Nat} (K : NOk s n) (i : Int) : NOk (looS s i) n :=
  ⟨(K.inv.quiet (quiet_loo s.T i)).forg i, good_loo K.gd _, by show (looT _ _).length ≤ 1024; rw [loo_len]; exact K.max, K.nm, K.len, forg_rng K.par _ _, up_forg K.up (fun k hk => (loo_kd s.T i k).1 hk) (loo_kd s.T i 0).2⟩
theorem wr_err {T T' : TB} {free : Nat} {i N E : Int} {d : List UInt8} {x : Nd} (hx : ndAt T i = some x) (h : WrSp T free i 0 d N E T') (hN : (d.length : Int) ≤ N) : E = 0 := by
  cases h with
  | none h1 => rw [hx] at h1; cases h1
  | arg _ _ h1 => omega
  | empty => rfl
  | big _ _ h1 => omega
  | space y at' h1 h2 h3 h4 h5 =>
    have : d.length ≠ 0 := fun e => h4 (List.eq_nil_of_length_eq_zero e)
    omega
  | done => rfl

end Go.Proofs.Ytemologkibcdoaa

/- Directories (stage 13): create. -/
namespace Go.Proofs.Ytemologkibcdoaa
open Go.RowKit Go.Maps

/-- The table, and what its turn makes of all. -/
theorem GAt.tbl {w : World} {q nb : Nat} {Y : Nat → Prop} {T : TB} {L : List Nm} {par : Int → Int} {D : Int → Prop} (H : GAt w q Y T L par D nb) (hn : ∀ k, w.heap.size ≤ k → Y k) : ∃ (t : Nat) (X : Nat → Prop), w.cell? ⟨q, 0, none⟩ = some (.pointer (some ⟨t, 0, none⟩)) ∧ TAt w t X T nb ∧ (∀ j, w.heap.size ≤ j → X j) ∧ (∀ w' T', TAt w' t X T' nb → GrownS w w' X → GAt w' q Y T' L par D nb ∧ GrownS w w' Y) := by
  obtain ⟨t, dm, M, X, HL, HY⟩ := H
  exact ⟨t, Fresh w X, HL.nds.cell 0 rfl, HL.tab.mono (fun _ _ h => .inl h), fun j hj => .inr hj, fun w' T' h1 h2 => GAt.table HL HY hn h1 h2⟩

theorem make_rng {T : TB} {k : Int} (h : makeE T k = 0) (hl : T.length ≤ 1024) : 1 ≤ makeN T k ∧ makeN T k ≤ 1024 := by
  unfold makeE at h
  unfold makeN
  by_cases h1 : kindOk k = true
  · rw [if_pos h1] at h
    by_cases h2 : frAt T < T.length
    · simp [h1, h2]
      omega
    · rw [if_neg h2] at h; cases h
  · rw [if_neg h1] at h; cases h
theorem makeT_no {T : TB} {k : Int} (h : makeE T k ≠ 0) : makeT T k = T ∧ makeN T k = 0 := by
  unfold makeE at h
  unfold makeT makeN
  by_cases h1 : kindOk k = true
  · rw [if_pos h1] at h
    by_cases h2 : frAt T < T.length
    · rw [if_pos h2] at h; exact absurd rfl h
    · simp [h1, h2]
  · simp [h1]
/-- What create leaves. -/
def Made (w w' : World) (q : Nat) (Y : Nat → Prop) (s : NS) (nb : Nat) (d : Int) (p : List UInt8) (kind : Int) (tx : List UInt8) (N E : Int) : Prop := ∃ s', MadeSp s nb d p kind tx N E s' ∧ NdAt w' q Y s' nb ∧ GrownS w w' Y
theorem made_end {w' : World} {q nb : Nat} {Y : Nat → Prop} {s : NS} {kind : Int} {T1 T2 : TB} {N E : Int} {tx : List UInt8} {free : Nat} {x : Nm} (hU : UpOk s) (h2 : makeE s.T kind = 0) (h3 : T1 = tieT (makeT s.T kind) (makeN s.T kind)) (h4 : WrSp T1 free (makeN s.T kind) 0 tx N E T2) :
    (kind.toNat ≠ 2 → GAt w' q Y T2 (putL s.L x) s.par (fun d => kdI s.T d = 2) nb → NdAt w' q Y ⟨T2, putL s.L x, parU s.par (makeN s.T kind) x.dir⟩ nb) ∧
    (kind.toNat = 2 → GAt w' q Y T2 (putL s.L x) (parU s.par (makeN s.T kind) x.dir) (fun k => k = makeN s.T kind ∨ kdI s.T k = 2) nb → NdAt w' q Y ⟨T2, putL s.L x, parU s.par (makeN s.T kind) x.dir⟩ nb) ∧
    (kind.toNat ≠ 2 → (∀ y ∈ s.L, ¬ (y.dir = x.dir ∧ y.name = x.name)) → GAt w' q Y (untT T2 (makeN s.T kind)) (dropL (putL s.L x) x.dir x.name) (forgP (untT T2 (makeN s.T kind)) (makeN s.T kind) s.par) (keepD (untT T2 (makeN s.T kind)) (makeN s.T kind) (fun d => kdI s.T d = 2)) nb → NdAt w' q Y { s with T := untT T2 (makeN s.T kind) } nb) := by
  obtain ⟨a1, a2, a3⟩ := make_all h2
  obtain ⟨b0, b1, b2⟩ := made_all h2 h3 h4
  have hk0 : kdI s.T (makeN s.T kind) = 0 := by unfold kdI; rw [a1]; rfl
  refine ⟨fun hk hg => ?_, fun hk hg => ?_, fun hk hno hg => ?_⟩
  · refine GAt.toN (hg.par (fun d hd => if_neg (fun e => by rw [e, hk0] at hd; cases hd))) (fun d => ?_)
    rw [b2]
    by_cases e : d = makeN s.T kind
    · rw [if_pos e, e, hk0]
      exact ⟨fun h => (by cases h), fun h => absurd h hk⟩
    · rw [if_neg e]
  · refine GAt.toN hg (fun d => ?_)
    rw [b2]
    by_cases e : d = makeN s.T kind
    · rw [if_pos e]
      exact ⟨fun _ => hk, fun _ => .inl e⟩
    · rw [if_neg e]
      exact ⟨fun h => h.resolve_left e, .inr⟩
  · rw [drop_put hno] at hg
    refine GAt.toN (hg.par (fun d hd => ?_)) (fun d => ?_)
    · have h1 : kdI s.T d = 2 := hd.1
      show s.par d = forgP _ _ s.par d
      unfold forgP
      rw [if_neg (fun e => up_no hU h1 (by rw [hk0]; decide) (by omega) e.2)]
    by_cases e : d = makeN s.T kind
    · have h5 := (unt_kd T2 (makeN s.T kind) d).2
      rw [b2, if_pos rfl] at h5
      unfold keepD
      rw [e]
      refine ⟨fun h => ?_, fun h => ?_⟩
      · have h6 : kdI s.T (makeN s.T kind) = 2 := h.1
        rw [hk0] at h6
        cases h6
      rcases h5 with h5 | h5
      · rw [h5] at h; exact absurd h hk
      · rw [h5] at h; cases h
    · rw [(unt_kd T2 (makeN s.T kind) d).1 e, b2, if_neg e]
      exact ⟨fun h => h.1, fun h => ⟨h, fun _ => e⟩⟩
end Go.Proofs.Ytemologkibcdoaa

/-
  FdsEnds, the tree: every node but the root is a file with a name or a user, and its users are the open files.
-/
import Derived.Test.YtemologkibcdoaaGreatDoorM41
namespace Go.Proofs.YtemologkibcdoaaGreatDoor
open Go.RowKit Go.Maps

def rtN : Nd := tieN (nd0 2)
structure ES (s : NS) (u : Int → Nat) (m : Nat) : Prop where
  root : ndAt s.T 1 = some rtN
  kind : ∀ (i : Int) (x : Nd), i ≠ 1 → ndAt s.T i = some x → x.kind = 1 ∧ x.users = u i ∧ (1 ≤ x.names ∨ 1 ≤ x.users)
  none : ∀ i : Int, ndAt s.T i = none → u i = 0
  one : u 1 = 0
  dir : ∀ y ∈ s.L, y.dir = 1
  len : s.T.length = m
theorem es_root (m : Nat) (h : 1 ≤ m) : ES (rootS m) (fun _ => 0) m := by
  obtain ⟨k, rfl⟩ : ∃ k, m = k + 1 := ⟨m - 1, by omega⟩
  have hf : frAt (List.replicate (k + 1) (none : Option Nd)) = 0 := by unfold frAt; simp [List.replicate_succ, List.findIdx_cons]
  have hE : makeE (List.replicate (k + 1) none) 2 = 0 := by unfold makeE; rw [hf]; simp [kindOk]
  have hN : makeN (List.replicate (k + 1) none) 2 = 1 := by unfold makeN; rw [hf]; simp [kindOk]
  obtain ⟨a1, a2, a3⟩ := make_all hE
  rw [hN] at a1 a3
  have hm : ndAt (makeT (List.replicate (k + 1) none) 2) 1 = some (nd0 2) := by rw [a3, if_pos rfl]; rfl
  have ht : ∀ i, ndAt (rootS (k + 1)).T i = if i = 1 then some rtN else ndAt (List.replicate (k + 1) (none : Option Nd)) i := fun i => by
    show ndAt (tieT (makeT (List.replicate (k + 1) none) 2) 1) i = _
    have e : tieT (makeT (List.replicate (k + 1) none) 2) 1 = (makeT (List.replicate (k + 1) none) 2).set (plc 1) (some (tieN (nd0 2))) := by
      unfold tieT
      rw [hm]
    rw [e, set_nd hm, a3]
    split
    · rfl
    · rfl
  have hno : ∀ i, ndAt (List.replicate (k + 1) (none : Option Nd)) i = none := fun i => by
    unfold ndAt
    split
    · cases h2 : (List.replicate (k + 1) (none : Option Nd))[(i - 1).toNat]? with
      | none => rfl
      | some o =>
        rw [List.getElem?_replicate] at h2
        split at h2
        · injection h2 with h2; rw [← h2]; rfl
        · cases h2
    · rfl
  refine ⟨by rw [ht, if_pos rfl], fun i x hi hx => ?_, fun _ _ => rfl, rfl, fun y hy => by simp [rootS] at hy, ?_⟩
  · rw [ht, if_neg hi, hno] at hx
    cases hx
  · show (tieT (makeT (List.replicate (k + 1) none) 2) 1).length = k + 1
    rw [tie_len, make_len, List.length_replicate]
/-- One node turns to another one with as many names; its users as u' says. -/
theorem ES.upd {s : NS} {u u' : Int → Nat} {m : Nat} (H : ES s u m) {i : Int} {x x' : Nd} (hi : i ≠ 1) (hx : ndAt s.T i = some x) (h1 : x'.kind = x.kind) (h2 : x'.users = u' i) (h3 : 1 ≤ x'.names ∨ 1 ≤ x'.users) (hu : ∀ k, k ≠ i → u' k = u k) {T' : TB} (hT : T' = s.T.set (plc i) (some x')) (par : Int → Int) : ES ⟨T', s.L, par⟩ u' m := by
  subst hT
  have hs : ∀ k, ndAt (s.T.set (plc i) (some x')) k = if k = i then some x' else ndAt s.T k := fun k => set_nd hx (some x') k
  refine ⟨?_, fun k y hk hy => ?_, fun k hk => ?_, ?_, H.dir, ?_⟩
  · show ndAt (s.T.set _ _) 1 = _
    rw [hs, if_neg (fun e => hi e.symm)]
    exact H.root
  · have hy : ndAt (s.T.set (plc i) (some x')) k = some y := hy
    rw [hs] at hy
    by_cases e : k = i
    · subst e
      rw [if_pos rfl] at hy
      injection hy with hy
      subst hy
      exact ⟨h1.trans (H.kind k x hi hx).1, h2, h3⟩
    · rw [if_neg e] at hy
      rw [hu k e]
      exact H.kind k y hk hy
  · have hk : ndAt (s.T.set (plc i) (some x')) k = Option.none := hk
    rw [hs] at hk
    by_cases e : k = i
    · rw [if_pos e] at hk; cases hk
    · rw [if_neg e] at hk
      rw [hu k e]
      exact H.none k hk
  · rw [hu 1 (fun e => hi e.symm)]
    exact H.one
  · show (s.T.set _ _).length = m
    rw [List.length_set]
    exact H.len
theorem ES.par {s : NS} {u : Int → Nat} {m : Nat} (H : ES s u m) (par : Int → Int) : ES ⟨s.T, s.L, par⟩ u m := ⟨H.root, H.kind, H.none, H.one, H.dir, H.len⟩
theorem ES.same {s : NS} {u : Int → Nat} {m : Nat} (H : ES s u m) {i : Int} {x x' : Nd} (hi : i ≠ 1) (hx : ndAt s.T i = some x) (h1 : x'.kind = x.kind) (h2 : x'.users = x.users) (h3 : x'.names = x.names) {T' : TB} (hT : T' = s.T.set (plc i) (some x')) : ES { s with T := T' } u m := by
  have hk := H.kind i x hi hx
  exact H.upd hi hx h1 (h2.trans hk.2.1) (by rw [h2, h3]; exact hk.2.2) (fun _ _ => rfl) hT s.par
theorem fil_one {s : NS} {u : Int → Nat} {m : Nat} (H : ES s u m) {i : Int} (h : filE s i = 0) : i ≠ 1 := fun e => by
  subst e
  unfold filE kdI at h
  rw [H.root] at h
  cases h
theorem es_wr {s : NS} {u : Int → Nat} {m : Nat} (H : ES s u m) {free : Nat} {i a N E : Int} {d : List UInt8} {T' : TB} (hi : i ≠ 1) (h : WrSp s.T free i a d N E T') : ES { s with T := T' } u m := by
  cases h with
  | none => exact H
  | arg => exact H
  | empty => exact H
  | big => exact H
  | space => exact H
  | done x at' n hx => exact H.same hi hx (x' := putN x at' d n) rfl rfl rfl rfl
theorem es_write {s s' : NS} {u : Int → Nat} {m nb : Nat} (H : ES s u m) {i a N E : Int} {d : List UInt8} (h : WrtSp s nb i a d N E s') : ES s' u m := by
  rcases h with ⟨_, _, _, rfl⟩ | ⟨h0, T', h, rfl⟩
  · exact H
  · exact es_wr H (fil_one H h0) h
theorem es_cut {s : NS} {u : Int → Nat} {m : Nat} (H : ES s u m) (i z : Int) : ES (ncutS s i z) u m := by
  unfold ncutS
  split
  · rename_i h0
    have hi := fil_one H h0
    unfold cutT
    cases hx : ndAt s.T i with
    | none => exact H
    | some x =>
      dsimp only
      split
      · exact H
      · exact H.same hi hx (x' := cutN x z.toNat) rfl rfl rfl rfl
  · exact H
def addU (u : Int → Nat) (i : Int) : Int → Nat := fun k => u k + (if k = i then 1 else 0)
theorem es_hold {s : NS} {u : Int → Nat} {m : Nat} (H : ES s u m) {i : Int} {x : Nd} (hi : i ≠ 1) (hx : ndAt s.T i = some x) : ES { s with T := holdT s.T i } (addU u i) m := by
  have hk := H.kind i x hi hx
  have e : holdT s.T i = s.T.set (plc i) (some (holdN x)) := by unfold holdT; rw [hx]
  exact H.upd hi hx (x' := holdN x) rfl (by show x.users + 1 = u i + (if i = i then 1 else 0); rw [if_pos rfl, hk.2.1]) (.inr (Nat.succ_pos _)) (fun k h => by show u k + (if k = i then 1 else 0) = u k; rw [if_neg h]; rfl) e s.par
theorem es_loose {s : NS} {u : Int → Nat} {m : Nat} (H : ES s u m) {i : Int} (hi : i ≠ 1) (h1 : 1 ≤ u i) : ES (looS s i) (fun k => u k - (if k = i then 1 else 0)) m := by
  cases hx : ndAt s.T i with
  | none => have := H.none i hx; omega
  | some x =>
    have hk := H.kind i x hi hx
    have hu : x.users ≠ 0 := by rw [hk.2.1]; omega
    have e : looT s.T i = s.T.set (plc i) (leftN (looN x)) := by
      unfold looT
      rw [hx]
      dsimp only
      rw [if_neg hu]
    unfold looS
    rw [e]
    by_cases h0 : x.names = 0 ∧ x.users = 1
    · have el : leftN (looN x) = Option.none := by
        unfold leftN
        rw [if_pos ⟨h0.1, by show x.users - 1 = 0; omega⟩]
      rw [el]
      have hs : ∀ k, ndAt (s.T.set (plc i) Option.none) k = if k = i then Option.none else ndAt s.T k := fun k => set_nd hx Option.none k
      refine ⟨?_, fun k y hk2 hy => ?_, fun k hk2 => ?_, ?_, H.dir, by show (s.T.set _ _).length = m; rw [List.length_set]; exact H.len⟩
      · show ndAt (s.T.set _ _) 1 = _
        rw [hs, if_neg (fun e => hi e.symm)]
        exact H.root
      · have hy : ndAt (s.T.set (plc i) Option.none) k = some y := hy
        rw [hs] at hy
        by_cases ek : k = i
        · rw [if_pos ek] at hy; cases hy
        · rw [if_neg ek] at hy ⊢
          exact H.kind k y hk2 hy
      · have hk2 : ndAt (s.T.set (plc i) Option.none) k = Option.none := hk2
        rw [hs] at hk2
        by_cases ek : k = i
        · subst ek
          rw [if_pos rfl]
          have := hk.2.1
          omega
        · rw [if_neg ek] at hk2 ⊢
          exact H.none k hk2
      · rw [if_neg (fun e => hi e.symm)]
        exact H.one
    · have el : leftN (looN x) = some (looN x) := by
        unfold leftN
        rw [if_neg (fun h => h0 ⟨h.1, by have : x.users - 1 = 0 := h.2; omega⟩)]
      rw [el]
      refine H.upd hi hx (x' := looN x) rfl (by show x.users - 1 = _; rw [if_pos rfl, hk.2.1]) ?_ (fun k h => by rw [if_neg h]; rfl) rfl _
      show 1 ≤ x.names ∨ 1 ≤ x.users - 1
      omega
/-- A file that is made: it has a name, and no user. -/
theorem es_made {s s' : NS} {u : Int → Nat} {m nb : Nat} (H : ES s u m) (V : NInv s) {d N E : Int} {p : List UInt8} (h : MadeSp s nb d p 1 [] N E s') : (E ≠ 0 ∧ s' = s) ∨ (E = 0 ∧ N ≠ 1 ∧ ES s' u m ∧ ∃ x, ndAt s'.T N = some x) := by
  cases h with
  | bad h => exact .inl ⟨h, rfl⟩
  | nodes h1 h2 => exact .inl ⟨h2, rfl⟩
  | space N E T1 T2 h1 h2 h3 h4 h5 =>
    have := wr_pos h4
    have h5 : N < 0 := h5
    omega
  | done N E T1 T2 h1 h2 h3 h4 h5 =>
    obtain ⟨a1, a2, a3⟩ := make_all h2
    have hE : E = 0 ∧ T2 = T1 := by
      have hm : ndAt (makeT s.T 1) (makeN s.T 1) = some (nd0 1) := by rw [a3, if_pos rfl]; rfl
      have ht : ndAt T1 (makeN s.T 1) = some (tieN (nd0 1)) := by
        rw [h3]
        unfold tieT
        rw [hm]
        dsimp only
        rw [set_nd hm, if_pos rfl]
      cases h4 with
      | none h => rw [ht] at h; cases h
      | arg x h hn => omega
      | empty => exact ⟨rfl, rfl⟩
      | big x h hn hd => exact absurd rfl hd
      | space x at' h h6 h7 hd => exact absurd rfl hd
      | done x at' n h h6 h7 hd => exact absurd rfl hd
    obtain ⟨rfl, rfl⟩ := hE
    have hm : ndAt (makeT s.T 1) (makeN s.T 1) = some (nd0 1) := by rw [a3, if_pos rfl]; rfl
    have ht : ∀ k, ndAt T2 k = if k = makeN s.T 1 then some (tieN (nd0 1)) else ndAt s.T k := fun k => by
      rw [h3]
      unfold tieT
      rw [hm]
      dsimp only
      rw [set_nd hm]
      by_cases e : k = makeN s.T 1
      · rw [if_pos e, if_pos e]
      · rw [if_neg e, if_neg e, a3, if_neg e]
    have hn1 : makeN s.T 1 ≠ 1 := fun e => by
      rw [e, H.root] at a1
      cases a1
    have hdir : (roomN s d p).1 = 1 := by
      have hk := (room_all V h1).1
      by_cases e : (roomN s d p).1 = 1
      · exact e
      · unfold kdI at hk
        cases hx : ndAt s.T (roomN s d p).1 with
        | none => rw [hx] at hk; cases hk
        | some x =>
          rw [hx] at hk
          have := (H.kind _ x e hx).1
          have hk : x.kind = 2 := hk
          omega
    refine .inr ⟨rfl, hn1, ⟨?_, fun k y hk hy => ?_, fun k hk => ?_, H.one, fun y hy => ?_, ?_⟩, tieN (nd0 1), by show ndAt T2 _ = _; rw [ht, if_pos rfl]⟩
    · show ndAt T2 1 = _
      rw [ht, if_neg (fun e => hn1 e.symm)]
      exact H.root
    · have hy : ndAt T2 k = some y := hy
      rw [ht] at hy
      by_cases e : k = makeN s.T 1
      · rw [if_pos e] at hy
        injection hy with hy
        subst hy
        refine ⟨rfl, ?_, .inl (Nat.le_refl _)⟩
        rw [e, H.none _ a1]
        rfl
      · rw [if_neg e] at hy
        exact H.kind k y hk hy
    · have hk : ndAt T2 k = Option.none := hk
      rw [ht] at hk
      by_cases e : k = makeN s.T 1
      · rw [if_pos e] at hk; cases hk
      · rw [if_neg e] at hk
        exact H.none k hk
    · rcases mem_put.1 hy with rfl | hy
      · exact hdir
      · exact H.dir y hy
    · show T2.length = m
      rw [h3, tie_len, make_len]
      exact H.len

end Go.Proofs.YtemologkibcdoaaGreatDoor

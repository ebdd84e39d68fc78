/-
  Write.
  What nodes keep to, whatever call; what a table has behind a turn of one node.
-/
import Derived.Test.YtemologkibcdoaaM10
import Derived.Test.YtemologkibcdoaaM07
import Derived.Test.YtemologkibcdoaaM09

/- Write. -/
namespace Go.Proofs.Ytemologkibcdoaa
open Go.RowKit Go.Maps

/-- What Write leaves. -/
def WrL (w w' : World) (p nb : Nat) (X : Nat → Prop) (T : TB) (i a : Int) (d : List UInt8) (N E : Int) : Prop := ∃ T', WrSp T (nb - usedT T) i a d N E T' ∧ TAt w' p X T' nb ∧ GrownS w w' X
theorem PutL.inX {w w' : World} {p nb : Nat} {L : Lay} {T : TB} {X : Nat → Prop} (hin : L.In T p X) (hnb : L.l.length = nb) {i : Nat} {x : Nd} (hi : T[i]? = some (some x)) {a done : Nat} {d : List UInt8} (h : PutL w w' p L T i x a d done) :
    PutSp x.has (freeN L.l) a d.length done ∧ TAt w' p X (T.set i (some (putB x a d done))) nb ∧ GrownS w w' X ∧ ∃ L', TL w' p L' (T.set i (some (putB x a d done))) ∧ L'.In (T.set i (some (putB x a d done))) p X ∧ L'.l.length = nb ∧ L'.q = L.q := by
  obtain ⟨pf, l, h1, h2, h3, h4⟩ := h
  have hin' := hin.step hi (putB x a d done) (updF L.pf i pf) l
  exact ⟨h1, ⟨_, h2, hin', by show l.length = nb; omega⟩, h4.mono (fun k _ e => by rcases e with e | e | e; rw [e]; exact (hin.each i x hi).2; rw [e]; exact hin.gs; rw [e]; exact hin.hs), _, h2, hin', by show l.length = nb; omega, rfl⟩
end Go.Proofs.Ytemologkibcdoaa

/- What nodes keep to, whatever call; what a table has behind a turn of one node. -/
namespace Go.Proofs.Ytemologkibcdoaa
open Go.RowKit Go.Maps

theorem good_ties {x : Nd} (h : x.Good) {x' : Nd} (h1 : x'.kind = x.kind) (h2 : x'.size = x.size) (h3 : x'.byt = x.byt) (h4 : x'.has = x.has) : x'.Good :=
  ⟨by rw [h1]; exact h.kind1, by rw [h1]; exact h.kind3, by rw [h2]; exact h.size, by rw [h2, h3]; exact h.zero, by rw [h2, h4]; exact h.has⟩
theorem good_new (n m : Nat) : TGood (List.replicate n none) m := fun i x h => by
  rw [List.getElem?_replicate] at h
  split at h
  · injection h with h
    cases h
  · cases h
theorem good_make {T : TB} {n : Nat} (h : TGood T n) (k : Int) : TGood (makeT T k) n := by
  unfold makeT
  split
  · rename_i hk
    rw [Bool.and_eq_true] at hk
    exact h.set _ (fun x hx => by injection hx with hx; subst hx; exact ⟨nd0_good hk.1, Nat.zero_le _, Nat.zero_le _⟩)
  · exact h
theorem good_tie {T : TB} {n : Nat} (h : TGood T n) (i : Int) : TGood (tieT T i) (n + 1) := by
  unfold tieT
  cases hx : ndAt T i with
  | none => exact h.mono (Nat.le_succ _)
  | some x =>
    obtain ⟨k, _, hk, _⟩ := ndAt_some hx
    have g := h k x hk
    exact (h.mono (Nat.le_succ _)).set _ (fun y hy => by injection hy with hy; subst hy; exact ⟨good_ties g.1 rfl rfl rfl rfl, Nat.succ_le_succ g.2.1, Nat.le_succ_of_le g.2.2⟩)
theorem good_hold {T : TB} {n : Nat} (h : TGood T n) (i : Int) : TGood (holdT T i) (n + 1) := by
  unfold holdT
  cases hx : ndAt T i with
  | none => exact h.mono (Nat.le_succ _)
  | some x =>
    obtain ⟨k, _, hk, _⟩ := ndAt_some hx
    have g := h k x hk
    exact (h.mono (Nat.le_succ _)).set _ (fun y hy => by injection hy with hy; subst hy; exact ⟨good_ties g.1 rfl rfl rfl rfl, Nat.le_succ_of_le g.2.1, Nat.succ_le_succ g.2.2⟩)
theorem good_unt {T : TB} {n : Nat} (h : TGood T n) (i : Int) : TGood (untT T i) n := by
  unfold untT
  cases hx : ndAt T i with
  | none => exact h
  | some x =>
    obtain ⟨k, _, hk, _⟩ := ndAt_some hx
    have g := h k x hk
    dsimp only
    split
    · exact h
    · refine h.set _ (fun y hy => ?_)
      unfold leftN at hy
      split at hy
      · cases hy
      · injection hy with hy
        subst hy
        exact ⟨good_ties g.1 rfl rfl rfl rfl, Nat.le_trans (Nat.sub_le _ _) g.2.1, g.2.2⟩
theorem good_loo {T : TB} {n : Nat} (h : TGood T n) (i : Int) : TGood (looT T i) n := by
  unfold looT
  cases hx : ndAt T i with
  | none => exact h
  | some x =>
    obtain ⟨k, _, hk, _⟩ := ndAt_some hx
    have g := h k x hk
    dsimp only
    split
    · exact h
    · refine h.set _ (fun y hy => ?_)
      unfold leftN at hy
      split at hy
      · cases hy
      · injection hy with hy
        subst hy
        exact ⟨good_ties g.1 rfl rfl rfl rfl, g.2.1, Nat.le_trans (Nat.sub_le _ _) g.2.2⟩
theorem good_cut {T : TB} {n : Nat} (h : TGood T n) (i s : Int) : TGood (cutT T i s) n := by
  unfold cutT
  cases hx : ndAt T i with
  | none => exact h
  | some x =>
    obtain ⟨k, _, hk, _⟩ := ndAt_some hx
    have g := h k x hk
    dsimp only
    split
    · exact h
    · exact h.set _ (fun y hy => by injection hy with hy; subst hy; exact ⟨g.1.cut (by omega), g.2⟩)
theorem good_wr {T T' : TB} {n free : Nat} (h : TGood T n) {i a N E : Int} {d : List UInt8} (hw : WrSp T free i a d N E T') : TGood T' n := by
  cases hw with
  | none => exact h
  | arg => exact h
  | empty => exact h
  | big => exact h
  | space => exact h
  | done x at' m hx _ _ _ _ hp =>
    obtain ⟨k, _, hk, _⟩ := ndAt_some hx
    have g := h k x hk
    exact h.set _ (fun y hy => by injection hy with hy; subst hy; exact ⟨g.1.put hp.max, g.2⟩)

theorem ndAt_set {T : TB} {k : Nat} {o : Option Nd} (h : k < T.length) (i : Int) : ndAt (T.set k o) i = if i = (k : Int) + 1 then o else ndAt T i := by
  by_cases e : i = (k : Int) + 1
  · rw [if_pos e, e]
    exact ndAt_of (by rw [List.getElem?_set, if_pos rfl, if_pos h])
  · rw [if_neg e]
    unfold ndAt
    by_cases h1 : 1 ≤ i
    · rw [if_pos h1, if_pos h1, List.getElem?_set, if_neg (by omega)]
    · rw [if_neg h1, if_neg h1]
theorem WrSp.uniq {T T1 T2 : TB} {free : Nat} {i a N1 E1 N2 E2 : Int} {d : List UInt8} (h1 : WrSp T free i a d N1 E1 T1) (h2 : WrSp T free i a d N2 E2 T2) : N1 = N2 ∧ E1 = E2 ∧ T1 = T2 := by
  cases h1 with
  | none a1 =>
    cases h2 with
    | none => exact ⟨rfl, rfl, rfl⟩
    | arg x b1 => rw [a1] at b1; cases b1
    | empty x b1 => rw [a1] at b1; cases b1
    | big x b1 => rw [a1] at b1; cases b1
    | space x c b1 => rw [a1] at b1; cases b1
    | done x c m b1 => rw [a1] at b1; cases b1
  | arg x a1 a2 =>
    cases h2 with
    | none b1 => rw [a1] at b1; cases b1
    | arg => exact ⟨rfl, rfl, rfl⟩
    | empty y b1 b2 => omega
    | big y b1 b2 => omega
    | space y c b1 b2 => omega
    | done y c m b1 b2 => omega
  | empty x a1 a2 a3 =>
    cases h2 with
    | none b1 => rw [a1] at b1; cases b1
    | arg y b1 b2 => omega
    | empty => exact ⟨rfl, rfl, rfl⟩
    | big y b1 b2 b3 => exact absurd a3 b3
    | space y c b1 b2 b3 b4 => exact absurd a3 b4
    | done y c m b1 b2 b3 b4 => exact absurd a3 b4
  | big x a1 a2 a3 =>
    cases h2 with
    | none b1 => rw [a1] at b1; cases b1
    | arg y b1 b2 => omega
    | empty y b1 b2 b3 => exact absurd b3 a3
    | big => exact ⟨rfl, rfl, rfl⟩
    | space y c b1 b2 b3 => omega
    | done y c m b1 b2 b3 => omega
  | space x c a1 a2 a3 a4 a5 =>
    cases h2 with
    | none b1 => rw [a1] at b1; cases b1
    | arg y b1 b2 => omega
    | empty y b1 b2 b3 => exact absurd b3 a4
    | big y b1 b2 b3 => omega
    | space => exact ⟨rfl, rfl, rfl⟩
    | done y c' m b1 b2 b3 b4 b5 b6 =>
      obtain rfl : c = c' := by omega
      rw [a1] at b1
      injection b1 with b1
      subst b1
      have := a5.uniq b6
      omega
  | done x c m a1 a2 a3 a4 a5 a6 =>
    cases h2 with
    | none b1 => rw [a1] at b1; cases b1
    | arg y b1 b2 => omega
    | empty y b1 b2 b3 => exact absurd b3 a4
    | big y b1 b2 b3 => omega
    | space y c' b1 b2 b3 b4 b5 =>
      obtain rfl : c = c' := by omega
      rw [a1] at b1
      injection b1 with b1
      subst b1
      have := a6.uniq b5
      omega
    | done y c' m' b1 b2 b3 b4 b5 b6 =>
      obtain rfl : c = c' := by omega
      rw [a1] at b1
      injection b1 with b1
      subst b1
      obtain rfl := a6.uniq b6
      exact ⟨rfl, rfl, rfl⟩
def datO (o : Option Nd) : List UInt8 := match o with | none => [] | some x => datOf x
theorem dat_len (o : Option Nd) : (BA (datO o)).size = sizeOfN o := by
  rw [BA_size]
  cases o with
  | none => rfl
  | some x => exact datOf_len x
theorem rd_all {T : TB} {n : Nat} (h : TGood T n) (i : Int) : rdT T i 0 4096 = datO (ndAt T i) := by
  unfold rdT
  cases hx : ndAt T i with
  | none => rfl
  | some x =>
    obtain ⟨k, _, hk, _⟩ := ndAt_some hx
    have h1 := (h k x hk).1.size
    show (if (0 : Int) < 0 ∨ (4096 : Int) < 0 then [] else ((datOf x).drop 0).take 4096) = datOf x
    rw [if_neg (by omega), List.drop_zero, List.take_of_length_le (by rw [datOf_len]; exact h1)]

end Go.Proofs.Ytemologkibcdoaa

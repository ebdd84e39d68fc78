/-
  Directories (stage 13): the tree's own calls: Walk, Make, Mkdir, Symlink, Hold, Loose, Write.
  Directories (stage 13): find.
-/
import Derived.Test.YtemologkibcdoaaM24

/- Directories (stage 13): the tree's own calls: Walk, Make, Mkdir, Symlink, Hold, Loose, Write. -/
namespace Go.Proofs.Ytemologkibcdoaa
open Go.RowKit Go.Maps

/-- A tree at f, its nodes at q. -/
structure FX (w : World) (f q : Nat) (Y : Nat → Prop) (s : NS) (nb n : Nat) (B : Bas) : Prop where
  nd : NdX w q Y s nb n B
  blk : Blk w f 83 #[.pointer (some ⟨q, 0, none⟩)]
  no : ¬ Y f
  new : ∀ k, w.heap.size ≤ k → Y k
theorem FX.below {w w' : World} {f q nb n : Nat} {B : Bas} {Y : Nat → Prop} {s : NS} (H : FX w f q Y s nb n B) (hb : Below w.heap.size w w') : FX w' f q Y s nb n B := ⟨H.nd.below hb, H.blk.below hb H.blk.lt, H.no, fun k hk => H.new k (Nat.le_trans hb.size hk)⟩
theorem FX.turn {w w' : World} {f q nb n n' : Nat} {B : Bas} {Y : Nat → Prop} {s s' : NS} (H : FX w f q Y s nb n B) (h1 : NdAt w' q Y s' nb) (h2 : GrownS w w' Y) (h3 : NOk s' n') : FX w' f q Y s' nb n' B := ⟨H.nd.turn h1 h2 h3, H.blk.grownS h2 H.no, H.no, fun k hk => H.new k (Nat.le_trans h2.size hk)⟩
theorem FX.mono {w : World} {f q nb n n' : Nat} {B : Bas} {Y : Nat → Prop} {s : NS} (H : FX w f q Y s nb n B) (h : n ≤ n') : FX w f q Y s nb n' B := ⟨⟨H.nd.at', H.nd.ok.mono h, H.nd.env, H.nd.yb⟩, H.blk, H.no, H.new⟩
/-- What came in between is not turned. -/
theorem FX.renew {w w' : World} {f q nb n : Nat} {B : Bas} {Y : Nat → Prop} {s : NS} (H : FX w f q Y s nb n B) (hb : Below w.heap.size w w') : FX w' f q (fun k => Upto w Y k ∨ w'.heap.size ≤ k) s nb n B := by
  have h := H.nd.tight.below hb
  refine ⟨⟨h.at'.mono (fun k _ hk => .inl hk), h.ok, h.env, fun k hk => ?_⟩, H.blk.below hb H.blk.lt, ?_, fun k hk => .inr hk⟩
  · rcases hk with hk | hk
    · exact H.nd.yb k hk.1
    · exact h.env.le k hk
  · rintro (hk | hk)
    · exact H.no hk.1
    · have := H.blk.lt
      have := hb.size
      omega
def refE (s : NS) (d : Int) : Int := if isD s d then 0 else 25
theorem isD_rng {s : NS} {n : Nat} (K : NOk s n) {d : Int} (h : isD s d = true) : 0 ≤ d ∧ d ≤ 1024 := by
  have := K.rng (d := d) (of_decide_eq_true h)
  omega
theorem place_no {s : NS} {d : Int} (h : isD s d = false) (p : List UInt8) : placeN s d p = (0, [], 25) := by
  unfold placeN
  rw [if_pos h]
theorem room_no {s : NS} {d : Int} (h : isD s d = false) (p : List UInt8) : (roomN s d p).2.2 = 25 := by
  unfold roomN
  rw [place_no h]
  rfl
/-- What Symlink answers and leaves. -/
def SymSp (s : NS) (nb : Nat) (d : Int) (t p : List UInt8) (E : Int) (s' : NS) : Prop := (isD s d = false ∧ E = 25 ∧ s' = s) ∨ (isD s d = true ∧ t = [] ∧ E = 1 ∧ s' = s) ∨ (isD s d = true ∧ 256 < t.length ∧ E = 3 ∧ s' = s) ∨ ∃ N, isD s d = true ∧ t ≠ [] ∧ t.length ≤ 256 ∧ MadeSp s nb d p 3 t N E s'
theorem SymSp.uniq {s s1 s2 : NS} {nb : Nat} {d E1 E2 : Int} {t p : List UInt8} (h1 : SymSp s nb d t p E1 s1) (h2 : SymSp s nb d t p E2 s2) : E1 = E2 ∧ s1 = s2 := by
  rcases h1 with ⟨a, rfl, rfl⟩ | ⟨a, b, rfl, rfl⟩ | ⟨a, b, rfl, rfl⟩ | ⟨N, a, b, c, h1⟩ <;> rcases h2 with ⟨a', rfl, rfl⟩ | ⟨a', b', rfl, rfl⟩ | ⟨a', b', rfl, rfl⟩ | ⟨N', a', b', c', h2⟩
  all_goals first
    | exact ⟨rfl, rfl⟩
    | exact ⟨(h1.uniq h2).2.1, (h1.uniq h2).2.2⟩
    | exact absurd (a.symm.trans a') (by decide)
    | (exact absurd b b')
    | (exact absurd b' b)
    | (subst b; simp at b')
    | (subst b'; simp at b)
    | omega

end Go.Proofs.Ytemologkibcdoaa

/- Directories (stage 13): find. -/
namespace Go.Proofs.Ytemologkibcdoaa
open Go.RowKit Go.Maps

def fndE (s : NS) (d : Int) (p : List UInt8) : Int := if (placeN s d p).2.2 ≠ 0 then (placeN s d p).2.2 else if findN s (placeN s d p).1 (placeN s d p).2.1 = 0 then 23 else 0
structure FndIs (s : NS) (d : Int) (p : List UInt8) (N : Int) (t : List UInt8) (I E : Int) : Prop where
  e : E = fndE s d p
  ok : E = 0 → (placeN s d p).2.2 = 0 ∧ N = (placeN s d p).1 ∧ t = (placeN s d p).2.1 ∧ I = findN s N t ∧ I ≠ 0
  len : t.length ≤ 100000
  rng : (0 ≤ N ∧ N ≤ 1024) ∧ 0 ≤ I ∧ I ≤ 1024
theorem fnd_no {s : NS} {d : Int} {p : List UInt8} {E : Int} (h : fndE s d p = E) (hE : E ≠ 0) : FndIs s d p 0 [] 0 E := ⟨h.symm, fun e => absurd e hE, Nat.zero_le _, by decide, by decide⟩
end Go.Proofs.Ytemologkibcdoaa

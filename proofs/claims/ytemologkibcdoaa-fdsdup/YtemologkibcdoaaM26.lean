/-
  Directories (stage 13): Unlink, Rmdir, Hold, Loose, Write.
  Directories (stage 13): names in order: rising, List, Stat; Write.
-/
import Derived.Test.YtemologkibcdoaaM25
import Derived.Test.YtemologkibcdoaaM21

/- Directories (stage 13): Unlink, Rmdir, Hold, Loose, Write. -/
namespace Go.Proofs.Ytemologkibcdoaa
open Go.RowKit Go.Maps

theorem unlink_is (s : NS) (d : Int) (p : List UInt8) : unlinkE s d p = if fndE s d p ≠ 0 then fndE s d p else if isD s (findN s (placeN s d p).1 (placeN s d p).2.1) then 24 else 0 := by
  unfold unlinkE fndE
  by_cases h1 : (placeN s d p).2.2 ≠ 0
  · rw [if_pos h1, if_pos h1, if_pos h1]
  · rw [if_neg h1, if_neg h1]
    by_cases h2 : findN s (placeN s d p).1 (placeN s d p).2.1 = 0
    · rw [if_pos h2, if_pos h2]; rfl
    · rw [if_neg h2, if_neg h2]
      simp
theorem rmdir_is (s : NS) (d : Int) (p : List UInt8) : rmdirE s d p = if fndE s d p ≠ 0 then fndE s d p else if isD s (findN s (placeN s d p).1 (placeN s d p).2.1) = false then 25 else if inN s (findN s (placeN s d p).1 (placeN s d p).2.1) ≠ [] then 26 else 0 := by
  unfold rmdirE fndE
  by_cases h1 : (placeN s d p).2.2 ≠ 0
  · rw [if_pos h1, if_pos h1, if_pos h1]
  · rw [if_neg h1, if_neg h1]
    by_cases h2 : findN s (placeN s d p).1 (placeN s d p).2.1 = 0
    · rw [if_pos h2, if_pos h2]; rfl
    · rw [if_neg h2, if_neg h2]
      simp
/-- Which directories there are behind forget. -/
theorem keep_iff {s : NS} {T' : TB} {I : Int} (h1 : ∀ k, k ≠ I → kdI T' k = kdI s.T k) (h2 : kdI T' I = kdI s.T I ∨ kdI T' I = 0) (d : Int) : keepD T' I (fun d => kdI s.T d = 2) d ↔ kdI T' d = 2 := by
  unfold keepD
  by_cases e : d = I
  · subst e
    constructor
    · rintro ⟨a1, a2⟩
      rcases h2 with h3 | h3
      · rw [h3]; exact a1
      · exact absurd rfl (a2 (by rw [h3]; decide))
    · intro h
      rcases h2 with h3 | h3
      · exact ⟨h3.symm.trans h, fun h4 => absurd h h4⟩
      · rw [h3] at h; cases h
  · rw [h1 d e]
    exact ⟨fun h => h.1, fun h => ⟨h, fun _ => e⟩⟩
/-- A name is gone, in memory. -/
theorem gone_mem {w' : World} {q nb : Nat} {Y : Nat → Prop} {s : NS} {N : Int} {t : List UInt8} {I : Int} (hI : I = findN s N t) (hg : GAt w' q Y (untT s.T I) (dropL s.L N t) (forgP (untT s.T I) I s.par) (keepD (untT s.T I) I (fun d => kdI s.T d = 2)) nb) : NdAt w' q Y (goneS s N t) nb := by
  unfold goneS
  rw [← hI]
  exact GAt.toN hg (keep_iff (fun k hk => (unt_kd s.T I k).1 hk) (unt_kd s.T I 0).2)
/-- The table alone turned, and kinds stayed. -/
theorem FX.table {w w' : World} {f q nb n n' : Nat} {B : Bas} {Y : Nat → Prop} {s : NS} (H : FX w f q Y s nb n B) {T' : TB} (h1 : GAt w' q Y T' s.L s.par (fun d => kdI s.T d = 2) nb) (h2 : GrownS w w' Y) (hk : ∀ d, kdI s.T d = 2 ↔ kdI T' d = 2) (h3 : NOk { s with T := T' } n') : FX w' f q Y { s with T := T' } nb n' B := H.turn (GAt.toN h1 hk) h2 h3
theorem hold_kd (T : TB) (i k : Int) : kdI (holdT T i) k = kdI T k := by
  unfold holdT
  cases hx : ndAt T i with
  | none => rfl
  | some x =>
    unfold kdI
    rw [set_nd hx]
    split
    · rename_i e; rw [e, hx]; rfl
    · rfl
end Go.Proofs.Ytemologkibcdoaa

/- Directories (stage 13): names in order: rising, List, Stat; Write. -/
namespace Go.Proofs.Ytemologkibcdoaa
open Go.RowKit Go.Maps Go.Sort

/-- The slice v holds these texts. -/
def TRow (w : World) (v : Value) (l : List (List UInt8)) : Prop := (v = .slice none 0 0 ∧ l = []) ∨ ∃ (g cap : Nat) (cs : Array Value), v = .slice (some ⟨g, 0, none⟩) l.length cap ∧ l.length ≤ cap ∧ cap ≤ maxLen ∧ w.heap[g]? = some (.cells cs 9 (0, 0)) ∧ cap ≤ cs.size ∧ ∀ (i : Nat) (x : List UInt8), l[i]? = some x → cs[i]? = some (.string (BA x))
theorem TRow.of {w : World} {base n : Nat} {v : Value} {l : List (List UInt8)} (h : w.ownsRow base 9 1 v n (l.map fun x => .string (BA x))) (hn : n = l.length) : TRow w v l ∧ ∀ k, v.ownBlock = some k → base ≤ k := by
  subst hn
  obtain ⟨h0, ⟨rfl, h1⟩ | ⟨g, cap, cur, rfl, hb, hg, hle, hm, hsz, htk⟩⟩ := h
  · exact ⟨.inl ⟨rfl, List.eq_nil_of_length_eq_zero h1⟩, fun k hk => by cases hk⟩
  · refine ⟨.inr ⟨g, cap, cur, rfl, hle, hm, hg, by omega, fun i x hi => ?_⟩, fun k hk => ?_⟩
    · have hil := (List.getElem?_eq_some_iff.1 hi).1
      have e1 : (cur.toList.take (l.length * 1))[i]? = some (.string (BA x)) := by rw [htk, List.getElem?_map, hi]; rfl
      rw [List.getElem?_take, if_pos (by omega)] at e1
      simpa using e1
    · injection hk with hk
      subst hk
      exact hb
theorem TRow.grownS {w w' : World} {v : Value} {l : List (List UInt8)} {S : Nat → Prop} (h : TRow w v l) (hg : GrownS w w' S) (hv : ∀ k, v.ownBlock = some k → ¬ S k) : TRow w' v l := by
  rcases h with h | ⟨g, cap, cs, rfl, h1, h2, h3, h4⟩
  · exact .inl h
  · exact .inr ⟨g, cap, cs, rfl, h1, h2, (hg.block g (Array.getElem?_eq_some_iff.1 h3).1 (hv g rfl)).trans h3, h4⟩
theorem TRow.below {w w' : World} {v : Value} {l : List (List UInt8)} (h : TRow w v l) (hb : Below w.heap.size w w') : TRow w' v l := h.grownS (S := fun _ => False) (grownS_of_below hb) (fun _ _ e => e)
theorem TRow.len {w : World} {v : Value} {l : List (List UInt8)} (h : TRow w v l) : ∃ ad cap, v = .slice ad l.length cap ∧ l.length ≤ cap ∧ cap ≤ maxLen := by
  rcases h with ⟨rfl, rfl⟩ | ⟨g, cap, cs, rfl, h1, h2, _⟩
  · exact ⟨none, 0, rfl, by simp, Nat.zero_le _⟩
  · exact ⟨_, cap, rfl, h1, h2⟩
theorem TRow.at {w : World} {ad : Option Addr} {n cap : Nat} {l : List (List UInt8)} (h : TRow w (.slice ad n cap) l) {i : Nat} {x : List UInt8} (hi : l[i]? = some x) : ∃ g, ad = some ⟨g, 0, none⟩ ∧ w.cell? ⟨g, i, none⟩ = some (.string (BA x)) := by
  rcases h with ⟨_, rfl⟩ | ⟨g', cap', cs, h, _, _, hg, _, hc⟩
  · simp at hi
  · injection h with h1 h2 h3
    subst h1
    exact ⟨g', rfl, by simp [World.cell?, hg, hc i x hi]⟩
/-! Order. -/
theorem before_lt : ∀ {a b : List UInt8}, bytesBefore a b = true → a < b
  | [], [], h => by cases h
  | [], _ :: _, _ => by simp
  | _ :: _, [], h => by cases h
  | x :: a, y :: b, h => by
    rw [bytesBefore, Bool.or_eq_true, Bool.and_eq_true, beq_iff_eq, decide_eq_true_eq] at h
    rw [List.cons_lt_cons_iff]
    rcases h with h | ⟨h1, h2⟩
    · exact .inl h
    · exact .inr ⟨h1, before_lt h2⟩
theorem le_tr (a b c : List UInt8) (h1 : decide (a ≤ b) = true) (h2 : decide (b ≤ c) = true) : decide (a ≤ c) = true := by
  simp only [decide_eq_true_eq] at *
  exact List.le_trans h1 h2
theorem le_tot (a b : List UInt8) : (decide (a ≤ b) || decide (b ≤ a)) = true := by
  rcases List.le_total a b with h | h <;> simp [h]
theorem in_sorted {L : List Nm} (h : Srt L) (d : Int) : (inL L d).Pairwise fun a b => decide (a ≤ b) = true := by
  unfold inL
  rw [List.pairwise_map]
  have h1 : (L.filter (fun x => decide (x.dir = d))).Pairwise (fun a b => ltM a b = true) := List.Pairwise.filter _ h
  refine List.Pairwise.imp_of_mem ?_ h1
  intro a b ha hb hab
  have e1 : a.dir = d := by simpa using (List.mem_filter.1 ha).2
  have e2 : b.dir = d := by simpa using (List.mem_filter.1 hb).2
  simp only [ltM, e1, e2, Bool.or_eq_true, Bool.and_eq_true, decide_eq_true_eq] at hab
  simp only [decide_eq_true_eq]
  rcases hab with hab | hab
  · omega
  · exact List.le_of_lt (before_lt (by rw [← ltT_bef]; exact hab.2))
theorem sorted_keys {L : List Nm} (h : Srt L) (d : Int) {ss : List (List UInt8)} (hp : ss.Perm (inL L d)) : ss.mergeSort (fun x y => decide (x ≤ y)) = inL L d := by
  refine List.Perm.eq_of_pairwise ?_ (List.pairwise_mergeSort le_tr le_tot ss) (in_sorted h d) ((List.mergeSort_perm ss _).trans hp)
  intro a b _ _ h1 h2
  simp only [decide_eq_true_eq] at h1 h2
  exact List.le_antisymm h1 h2
theorem keys_dat (L : List Nm) (d : Int) : strKeys (datN L d) = inL L d := by
  show ((entN L d).map encN).map (fun p => strOf p.1) = _
  rw [List.map_map]
  rfl
theorem in_len {s : NS} {n : Nat} (K : NOk s n) (d : Int) : (inL s.L d).length ≤ n := by
  rw [inL_len]
  exact Nat.le_trans List.countP_le_length K.len
theorem in_no {s : NS} (K : NInv s) {d : Int} (hd : kdI s.T d ≠ 2) : inL s.L d = [] := by
  unfold inL
  have : s.L.filter (fun x => decide (x.dir = d)) = [] := List.filter_eq_nil_iff.2 (fun y hy e => hd (by rw [← of_decide_eq_true e]; exact (K.dirs y hy).1))
  rw [this]
  rfl
def listE (s : NS) (d : Int) : Int := if kdI s.T d = 0 then 23 else if kdI s.T d ≠ 2 then 25 else 0
end Go.Proofs.Ytemologkibcdoaa

/-
  What a text is read as is shaped: plainly.
-/
import Derived.Test.YtodcfgbcigjjfaaDoorWPure2
namespace Go.Proofs.YtodcfgbcigjjfaaDoor

def kq (p : Prt) : Int × Bool := (p.kind, p.quote)
/-- Two neighbours that are bytes differ in their quotes. -/
def Adj (l : List Prt) : Prop := ∀ (i : Nat) (a b : Int × Bool), (l.map kq)[i]? = some a → (l.map kq)[i + 1]? = some b → a.1 = 1 → b.1 = 1 → a.2 ≠ b.2
inductive ShP : Prt → Prop
  | mk (k : Int) (t : List UInt8) (q : Bool) (o : Int) (c : Bool) (s : List Prt) (h1 : 1 ≤ k) (h2 : k ≤ 4) (h3 : 0 ≤ o) (h4 : o ≤ 9) (h5 : k ≠ 2 → o = 0 ∧ c = false) (h6 : k = 1 → q = false → t ≠ []) (h7 : o < 2 → s = []) (h8 : c = true → 2 ≤ o ∧ o ≤ 5)
      (hs : ∀ p, p ∈ s → ShP p) (ha : Adj s) : ShP (.mk k t q o c s)
def ShA (l : List Prt) : Prop := ∀ p, p ∈ l → ShP p
def ShW (l : List Prt) : Prop := ShA l ∧ Adj l
theorem adj_nil : Adj [] := by intro i a b h; simp at h
theorem adj_one (p : Prt) : Adj [p] := by intro i a b _ h; simp at h
theorem sha_nil : ShA [] := by intro p h; cases h
theorem shw_nil : ShW [] := ⟨sha_nil, adj_nil⟩
theorem sha_one {p : Prt} (h : ShP p) : ShA [p] := by intro q hq; simp at hq; rw [hq]; exact h
theorem sha_app {a b : List Prt} (h : ShA a) (h2 : ShA b) : ShA (a ++ b) := by
  intro p hp
  rcases List.mem_append.1 hp with hp | hp
  · exact h p hp
  · exact h2 p hp
theorem adj_congr {a b : List Prt} (e : a.map kq = b.map kq) (h : Adj a) : Adj b := by unfold Adj at h ⊢; rwa [← e]
theorem adj_snoc {ps : List Prt} {x p : Prt} (h : Adj (ps ++ [x])) (hx : x.kind = 1 → p.kind = 1 → x.quote ≠ p.quote) : Adj (ps ++ [x, p]) := by
  intro i a b h1 h2
  have e : (ps ++ [x, p]).map kq = (ps ++ [x]).map kq ++ [kq p] := by simp
  have hl : ((ps ++ [x]).map kq).length = ps.length + 1 := by simp
  rw [e] at h1 h2
  by_cases hi : i + 1 < ps.length + 1
  · rw [List.getElem?_append_left (by omega)] at h1 h2
    exact h i a b h1 h2
  · by_cases hi2 : i = ps.length
    · subst hi2
      rw [List.getElem?_append_left (by omega)] at h1
      rw [List.getElem?_append_right (by omega), hl] at h2
      simp at h1 h2
      rw [← h1, ← h2]
      exact hx
    · rw [List.getElem?_append_right (by omega), hl] at h2
      have : i + 1 - (ps.length + 1) ≠ 0 := by omega
      obtain ⟨n, hn⟩ := Nat.exists_eq_succ_of_ne_zero this
      rw [hn] at h2
      simp at h2
theorem addP_sh {ps : List Prt} {p : Prt} (h : ShW ps) (hp : ShP p) : ShW (addP ps p) := by
  rcases List.eq_nil_or_concat ps with rfl | ⟨ps, x, rfl⟩
  · rw [addP_nil]
    exact ⟨sha_one hp, adj_one p⟩
  · obtain ⟨k, t, q, o, c, s⟩ := x
    simp only [List.concat_eq_append] at h ⊢
    rw [addP_snoc]
    have hx : ShP (.mk k t q o c s) := h.1 _ (by simp)
    have hps : ShA ps := fun y hy => h.1 y (by simp [hy])
    split
    · cases hx with
      | mk _ _ _ _ _ _ h1 h2 h3 h4 h5 h6 h7 h8 hs ha =>
        refine ⟨sha_app hps (sha_one (.mk _ _ _ _ _ _ h1 h2 h3 h4 h5 (fun a b => by simp [h6 a b]) h7 h8 hs ha)), adj_congr ?_ h.2⟩
        simp [kq, Prt.kind, Prt.quote]
    · rename_i hn
      refine ⟨?_, adj_snoc h.2 (fun a b e => hn ⟨a, b, e⟩)⟩
      rw [show ps ++ [Prt.mk k t q o c s, p] = (ps ++ [Prt.mk k t q o c s]) ++ [p] by simp]
      exact sha_app h.1 (sha_one hp)
theorem fold_sh : ∀ (qs ps : List Prt), ShW ps → ShA qs → ShW (qs.foldl addP ps)
  | [], ps, h, _ => h
  | q :: qs, ps, h, hq => by
    rw [List.foldl_cons]
    exact fold_sh qs _ (addP_sh h (hq q (by simp))) (fun p hp => hq p (by simp [hp]))
def ShRd (r : Rd) : Prop := ∀ ps, r = .ok ps → ShA ps
theorem sh_word {r : Rd} (h : ShRd r) {ps : List Prt} (e : r.word = .ok ps) : ShW ps := by
  cases r with
  | err e' => simp [Rd.word] at e
  | ok qs =>
    simp [Rd.word] at e
    rw [← e]
    exact fold_sh qs [] shw_nil (h qs rfl)
theorem sh_lit {t : List UInt8} {q : Bool} (h : q = true ∨ t ≠ []) : ShP (litP t q) :=
  .mk _ _ _ _ _ _ (by decide) (by decide) (by decide) (by decide) (fun _ => ⟨rfl, rfl⟩) (fun _ hq => by rcases h with h | h <;> simp_all) (fun _ => rfl) (fun h => by cases h) sha_nil adj_nil
theorem sh_plain {k : Int} {t : List UInt8} {q : Bool} (h1 : 2 ≤ k) (h2 : k ≤ 4) : ShP (.mk k t q 0 false []) :=
  .mk _ _ _ _ _ _ (by omega) h2 (by decide) (by decide) (fun _ => ⟨rfl, rfl⟩) (fun h => by omega) (fun _ => rfl) (fun h => by cases h) sha_nil adj_nil
theorem sh_setQ {p : Prt} {q : Bool} (h : ShP p) (hk : p.kind ≠ 1) : ShP (setQ q p) := by
  cases h with
  | mk _ _ _ _ _ _ h1 h2 h3 h4 h5 h6 h7 h8 hs ha => exact .mk _ _ _ _ _ _ h1 h2 h3 h4 h5 (fun h => absurd h hk) h7 h8 hs ha
theorem sgn_op {c : Bool} {l t : List UInt8} {o : Int} (h : sgnL c l = some (o, t)) : 2 ≤ o ∧ o ≤ 9 ∧ (c = true → o ≤ 5) := by
  unfold sgnL at h
  split at h <;> simp at h <;> obtain ⟨rfl, _⟩ := h <;> simp
theorem sh_brc {rd : Nat → List UInt8 → Rd} (hrd : ∀ w t, ShRd (rd w t)) {w : Nat} {l : List UInt8} {p : Prt} (h : brcL rd w l = .ok p) : ShP p ∧ p.kind ≠ 1 := by
  unfold brcL at h
  split at h
  · cases h
    exact ⟨.mk _ _ _ _ _ _ (by decide) (by decide) (by decide) (by decide) (fun h => absurd rfl h) (fun h => by cases h) (fun _ => rfl) (fun h => by cases h) sha_nil adj_nil, by simp [Prt.kind]⟩
  split at h
  · cases h
  split at h
  · cases h
    exact ⟨sh_plain (by decide) (by decide), by simp [Prt.kind]⟩
  cases hs : sgnL (colonL (l.drop (parN l))) (behindL (l.drop (parN l))) with
  | none => rw [hs] at h; cases h
  | some x =>
    obtain ⟨op, t⟩ := x
    rw [hs] at h
    simp only at h
    cases hr : (rd (withinW w op) t).word with
    | err e => rw [hr] at h; cases h
    | ok ps =>
      rw [hr] at h
      cases h
      have ho := sgn_op hs
      have hw := sh_word (hrd _ _) hr
      exact ⟨.mk _ _ _ _ _ _ (by decide) (by decide) (by omega) ho.2.1 (fun h => absurd rfl h) (fun h => by cases h) (fun h => by omega) (fun h => ⟨ho.1, ho.2.2 h⟩) hw.1 hw.2, by show (2 : Int) ≠ 1; decide⟩
theorem sh_pair (w : Nat) (u : List UInt8) : ShA (pairL w u) := by
  unfold pairL
  split
  · exact sha_nil
  split
  · exact sha_one (sh_lit (.inl rfl))
  split
  · exact sha_one (sh_lit (.inl rfl))
  · exact sha_one (sh_lit (.inl rfl))
theorem sh_run (l : List UInt8) : ShP (runP l) ∧ (runP l).kind ≠ 1 := by
  unfold runP
  split
  · exact ⟨sh_plain (by decide) (by decide), by simp [Prt.kind]⟩
  · exact ⟨sh_plain (by decide) (by decide), by simp [Prt.kind]⟩
theorem sh_lng {rd : Nat → List UInt8 → Rd} (hrd : ∀ w t, ShRd (rd w t)) {w : Nat} {u : List UInt8} {p : Prt} (h : lngL rd w u = .ok p) : ShP p ∧ p.kind ≠ 1 := by
  unfold lngL at h
  split at h
  · cases h
    exact sh_run _
  · exact sh_brc hrd h
theorem sh_thn {rd : Nat → List UInt8 → Rd} (hrd : ∀ w t, ShRd (rd w t)) {w : Nat} {c : UInt8} {u rest ps r} (h : thnL rd w c u rest = .ok ps r) : ShA ps := by
  unfold thnL at h
  split at h
  · cases h; exact sh_pair w u
  split at h
  · cases h; exact sha_one (sh_lit (.inl rfl))
  split at h
  · cases hr : (rd 2 u.dropLast).word with
    | err e => rw [hr] at h; cases h
    | ok qs =>
      rw [hr] at h
      cases h
      split
      · exact sha_one (sh_lit (.inl rfl))
      · exact (sh_word (hrd _ _) hr).1
  split at h
  · split at h
    · cases h; exact sha_one (sh_lit (.inl rfl))
    · cases h; exact sha_one (sh_plain (by decide) (by decide))
  split at h
  · cases hr : lngL rd w u with
    | err e => rw [hr] at h; cases h
    | ok p =>
      rw [hr] at h
      cases h
      have := sh_lng hrd hr
      exact sha_one (sh_setQ this.1 this.2)
  split at h
  · cases h
  · cases h; exact sha_one (sh_lit (.inr (by simp)))
theorem sh_thi {b : Bool} {rd : Nat → List UInt8 → Rd} (hrd : ∀ w t, ShRd (rd w t)) {w : Nat} {c : UInt8} {l ps r} (h : thiL b rd w c l = .ok ps r) : ShA ps := by
  unfold thiL at h
  split at h
  · cases h
  · exact sh_thn hrd h
theorem sh_rd (b : Bool) : ∀ (f w : Nat) (l : List UInt8), ShRd (rdL b f w l)
  | 0, w, l => by intro ps h; rw [rdL] at h; cases h; exact sha_nil
  | f + 1, w, [] => by intro ps h; rw [rdL] at h; cases h; exact sha_nil
  | f + 1, w, c :: r => by
    intro ps h
    rw [rdL] at h
    cases ht : thiL b (rdL b f) w c r with
    | err e => rw [ht] at h; cases h
    | ok qs rest =>
      rw [ht] at h
      simp only at h
      cases hq : rdL b f w rest with
      | err e => rw [hq] at h; cases h
      | ok rs =>
        rw [hq] at h
        cases h
        exact sha_app (sh_thi (sh_rd b f) ht) (sh_rd b f w rest rs hq)
theorem sh_wrd (b : Bool) (w : Nat) (l : List UInt8) : ShW (wrdL b w l).parts := by
  unfold wrdL
  split
  · exact shw_nil
  · cases h : (rdL b (l.length + 1) w l).word with
    | err e => exact shw_nil
    | ok ps => exact sh_word (sh_rd b _ w l) h

end Go.Proofs.YtodcfgbcigjjfaaDoor

/-
  Words, plainly: how much a text is read as; that more fuel turns nothing.
  What a text is read as is shaped: plainly.
  How a word is written, plainly.
-/
import Derived.Test.YtnamfjbfcbamjaaGreatDoorP05
import Derived.Test.YtnamfjbfcbamjaaGreatDoorP04
namespace Go.Proofs.YtnamfjbfcbamjaaGreatDoor
theorem thg_rest {n : Nat} {c : UInt8} {r rest : List UInt8} {wh d : Nat} (h : thg (n + 3) (c :: r) wh d = .ok rest) : rest.length ≤ r.length := by
  have := thg_len (n + 2) c r wh d
  rw [h] at this
  exact this
theorem mid_len (u : List UInt8) : (u.drop 1).dropLast.length ≤ u.length - 2 := by simp; omega
theorem sgn_len {c : Bool} {l t : List UInt8} {o : Int} (h : sgnL c l = some (o, t)) : t.length < l.length := by
  unfold sgnL at h
  split at h <;> simp at h <;> obtain ⟨_, rfl⟩ := h <;> simp <;> omega
theorem behind_len (l : List UInt8) : (behindL l).length ≤ l.length := by
  unfold behindL
  split <;> simp
theorem brc_congr {rd rd' : Nat → List UInt8 → Rd} {w n : Nat} {l : List UInt8} (h : ∀ w t, t.length ≤ n → rd w t = rd' w t) (hl : l.length ≤ n) : brcL rd w l = brcL rd' w l := by
  unfold brcL
  split
  · rfl
  split
  · rfl
  split
  · rfl
  cases hs : sgnL (colonL (l.drop (parN l))) (behindL (l.drop (parN l))) with
  | none => rfl
  | some x =>
    obtain ⟨op, t⟩ := x
    have h1 := sgn_len hs
    have h2 := behind_len (l.drop (parN l))
    have h3 : (l.drop (parN l)).length ≤ l.length := by simp
    simp only [h (withinW w op) t (by omega)]
theorem thn_congr {rd rd' : Nat → List UInt8 → Rd} {w n : Nat} {c : UInt8} {u rest : List UInt8} (h : ∀ w t, t.length ≤ n → rd w t = rd' w t) (hl : u.length ≤ n) : thnL rd w c u rest = thnL rd' w c u rest := by
  unfold thnL lngL
  have h1 := mid_len u
  rw [h 2 u.dropLast (by simp; omega), brc_congr (w := w) h (show (u.drop 1).dropLast.length ≤ n by omega)]
theorem thi_congr {b : Bool} {rd rd' : Nat → List UInt8 → Rd} {w n : Nat} {c : UInt8} {r : List UInt8} (h : ∀ w t, t.length ≤ n → rd w t = rd' w t) (hl : r.length ≤ n) : thiL b rd w c r = thiL b rd' w c r := by
  unfold thiL
  cases thg (3 * (r.length + 1) + 3) (c :: r) (if flagW b w c then 1 else 0) 0 with
  | err e m => rfl
  | ok rest => exact thn_congr h (by simp; omega)
theorem front_le (l : List UInt8) : frontN l ≤ l.length := by
  cases l with
  | nil => simp [frontN]
  | cons c r =>
    show (if alpB (c.toNat : Int) = true then spanN namB (c :: r) else 0) ≤ _
    have := spanN_le namB (c :: r)
    split
    · exact this
    · omega
theorem nmd_le (l : List UInt8) : nmdN l ≤ l.length := by
  unfold nmdN
  have hf := front_le l
  split
  · exact hf
  · cases l with
    | nil => simp
    | cons c r => simp only; split <;> simp
theorem thi_rest {b : Bool} {rd : Nat → List UInt8 → Rd} {w : Nat} {c : UInt8} {r : List UInt8} {ps : List Prt} {rest : List UInt8} (h : thiL b rd w c r = .ok ps rest) : rest.length ≤ r.length := by
  unfold thiL at h
  cases ht : thg (3 * (r.length + 1) + 3) (c :: r) (if flagW b w c then 1 else 0) 0 with
  | err e m => rw [ht] at h; cases h
  | ok rs =>
    rw [ht] at h
    have h1 := thg_rest ht
    simp only at h
    unfold thnL at h
    repeat' split at h
    all_goals first
      | (cases h; done)
      | (cases h; exact h1)
      | (cases h; simp; omega)
theorem rd_more {b : Bool} : ∀ (f g w : Nat) (l : List UInt8), l.length < f → l.length < g → rdL b f w l = rdL b g w l
  | 0, _, _, _, h, _ => absurd h (by omega)
  | _ + 1, 0, _, _, _, h => absurd h (by omega)
  | f + 1, g + 1, w, [], _, _ => by rw [rdL, rdL]
  | f + 1, g + 1, w, c :: r, hf, hg => by
    simp at hf hg
    rw [rdL, rdL]
    rw [thi_congr (rd := rdL b f) (rd' := rdL b g) (n := r.length) (fun w t ht => rd_more f g w t (by omega) (by omega)) (Nat.le_refl _)]
    cases ht : thiL b (rdL b g) w c r with
    | err e => rfl
    | ok ps rest =>
      have h1 := thi_rest ht
      simp only
      rw [rd_more f g w rest (by omega) (by omega)]
def rdC (b : Bool) (w : Nat) (l : List UInt8) : Rd := rdL b (l.length + 1) w l
def Rd.pre (ps : List Prt) : Rd → Rd
  | .ok qs => .ok (ps ++ qs)
  | .err e => .err e
theorem rdC_nil (b : Bool) (w : Nat) : rdC b w [] = .ok [] := by unfold rdC; rw [rdL]
theorem rdC_err {b : Bool} {w : Nat} {c : UInt8} {r : List UInt8} {e : Int} (h : thiL b (rdC b) w c r = .err e) : rdC b w (c :: r) = .err e := by
  unfold rdC
  rw [List.length_cons, rdL, thi_congr (rd' := rdC b) (n := r.length) (fun w t ht => rd_more _ _ w t (by omega) (by omega)) (Nat.le_refl _), h]
theorem rdC_ok {b : Bool} {w : Nat} {c : UInt8} {r rest : List UInt8} {ps : List Prt} (h : thiL b (rdC b) w c r = .ok ps rest) : rdC b w (c :: r) = (rdC b w rest).pre ps := by
  have h1 := thi_rest h
  unfold rdC
  rw [List.length_cons, rdL, thi_congr (rd' := rdC b) (n := r.length) (fun w t ht => rd_more _ _ w t (by omega) (by omega)) (Nat.le_refl _), h]
  simp only
  rw [rd_more (r.length + 1) (rest.length + 1) w rest (by omega) (by omega)]
  cases rdL b (rest.length + 1) w rest <;> rfl
theorem wrd_of {b : Bool} {w : Nat} {l : List UInt8} (h : l.length ≤ 4096) : wrdL b w l = (rdC b w l).word := by
  unfold wrdL
  rw [if_neg (by omega)]
  rfl
def tlen (ps : List Prt) : Nat := (ps.map fun p => p.text.length).sum
theorem tlen_snoc (ps : List Prt) (p : Prt) : tlen (ps ++ [p]) = tlen ps + p.text.length := by simp [tlen]
theorem tlen_app (ps qs : List Prt) : tlen (ps ++ qs) = tlen ps + tlen qs := by simp [tlen]
def Few (n : Nat) (ps : List Prt) : Prop := ps.length ≤ n ∧ tlen ps ≤ n
theorem addP_few (ps : List Prt) (p : Prt) : (addP ps p).length ≤ ps.length + 1 ∧ tlen (addP ps p) ≤ tlen ps + p.text.length := by
  rcases List.eq_nil_or_concat ps with rfl | ⟨qs, q, rfl⟩
  · rw [addP_nil]; simp [tlen]
  · obtain ⟨k, t, q, o, c, s⟩ := q
    rw [List.concat_eq_append, addP_snoc]
    split
    · simp [tlen, Prt.text]; omega
    · rw [show qs ++ [Prt.mk k t q o c s, p] = (qs ++ [.mk k t q o c s]) ++ [p] by simp, tlen_snoc]; simp
theorem fold_few : ∀ (qs ps : List Prt), (qs.foldl addP ps).length ≤ ps.length + qs.length ∧ tlen (qs.foldl addP ps) ≤ tlen ps + tlen qs
  | [], ps => by simp [tlen]
  | q :: qs, ps => by
    have h1 := fold_few qs (addP ps q)
    have h2 := addP_few ps q
    rw [List.foldl_cons]
    have h3 : tlen (q :: qs) = q.text.length + tlen qs := by simp [tlen]
    simp only [List.length_cons]
    omega
theorem few_one {n : Nat} {p : Prt} (h : p.text.length ≤ n) (h1 : 1 ≤ n) : Few n [p] := ⟨by simpa using h1, by simp [tlen]; exact h⟩
theorem few_lit {n : Nat} {t : List UInt8} {q : Bool} (h : t.length ≤ n) (h1 : 1 ≤ n) : Few n [litP t q] := few_one h h1
def FewRd (n : Nat) : Rd → Prop
  | .ok ps => Few n ps
  | .err _ => True
theorem few_word {n : Nat} {r : Rd} (h : FewRd n r) : FewRd n r.word := by
  cases r with
  | err e => trivial
  | ok ps =>
    have h1 := fold_few ps []
    exact ⟨by have := h.1; simp at h1; show (ps.foldl addP []).length ≤ n; omega, by have := h.2; have h2 : tlen ([] : List Prt) = 0 := rfl; show tlen (ps.foldl addP []) ≤ n; omega⟩
theorem par_le (l : List UInt8) : parN l ≤ l.length := by
  unfold parN
  have hf := front_le l
  split
  · exact hf
  · cases l with
    | nil => simp
    | cons c r =>
      simp only
      have := spanN_le digB (c :: r)
      split
      · simp
      · split
        · omega
        · exact this
theorem brc_text {rd : Nat → List UInt8 → Rd} {w : Nat} {l : List UInt8} {p : Prt} (h : brcL rd w l = .ok p) : p.text.length ≤ l.length := by
  unfold brcL at h
  repeat' split at h
  all_goals first
    | (cases h; done)
    | (cases h; simp [Prt.text]; done)
    | (cases h; simp [Prt.text]; omega)
theorem run_text (l : List UInt8) : (runP l).text.length ≤ l.length := by
  unfold runP
  split <;> simp [Prt.text]
  omega
theorem setQ_text (q : Bool) (p : Prt) : (setQ q p).text = p.text := by cases p; rfl
theorem thi_few {b : Bool} {rd : Nat → List UInt8 → Rd} {w : Nat} {c : UInt8} {r : List UInt8} {ps : List Prt} {rest : List UInt8} (hrd : ∀ t, t.length ≤ r.length → FewRd t.length (rd 2 t)) (h : thiL b rd w c r = .ok ps rest) : Few (r.length + 1 - rest.length) ps := by
  unfold thiL at h
  cases ht : thg (3 * (r.length + 1) + 3) (c :: r) (if flagW b w c then 1 else 0) 0 with
  | err e m => rw [ht] at h; cases h
  | ok rs =>
    rw [ht] at h
    have h1 := thg_rest ht
    simp only at h
    obtain ⟨u, hu⟩ : ∃ u, u = r.take (r.length - rs.length) := ⟨_, rfl⟩
    have hul : u.length = r.length - rs.length := by rw [hu, List.length_take]; omega
    rw [← hu] at h
    unfold thnL at h
    split at h
    · cases h
      unfold pairL
      split
      · exact ⟨by simp, by simp [tlen]⟩
      · split
        · exact few_lit (by simp; omega) (by omega)
        · split
          · exact few_lit (by simp; omega) (by omega)
          · exact few_lit (by omega) (by omega)
    split at h
    · cases h
      exact few_lit (by simp; omega) (by omega)
    split at h
    · have h2 := few_word (hrd u.dropLast (by simp; omega))
      cases hw : (rd 2 u.dropLast).word with
      | err e => rw [hw] at h; cases h
      | ok qs =>
        rw [hw] at h h2
        cases h
        split
        · exact few_lit (by simp) (by omega)
        · have h3 : u.dropLast.length ≤ u.length := by simp
          exact ⟨by have := h2.1; omega, by have := h2.2; omega⟩
    split at h
    · split at h
      · cases h
        exact few_lit (by simp; omega) (by omega)
      · cases h
        have := nmd_le rs
        refine few_one (show (rs.take (nmdN rs)).length ≤ _ by simp; omega) (by simp; omega)
    split at h
    · cases hl : lngL rd w u with
      | err e => rw [hl] at h; cases h
      | ok p =>
        rw [hl] at h
        cases h
        have h2 : p.text.length ≤ u.length := by
          unfold lngL at hl
          have h3 := mid_len u
          split at hl
          · cases hl
            have := run_text (u.drop 1).dropLast
            omega
          · have := brc_text hl
            omega
        exact few_one (by rw [setQ_text]; omega) (by omega)
    split at h
    · cases h
    · cases h
      exact few_lit (by simp; omega) (by omega)
theorem few_add {m n k : Nat} {ps qs : List Prt} (h : Few m ps) (h2 : Few n qs) (hk : m + n ≤ k) : Few k (ps ++ qs) := ⟨by rw [List.length_append]; have := h.1; have := h2.1; omega, by rw [tlen_app]; have := h.2; have := h2.2; omega⟩
theorem rdC_few (b : Bool) : ∀ (n w : Nat) (l : List UInt8), l.length ≤ n → FewRd l.length (rdC b w l)
  | _, w, [], _ => by rw [rdC_nil]; exact ⟨by simp, by simp [tlen]⟩
  | 0, _, _ :: _, h => by simp at h
  | n + 1, w, c :: r, h => by
    simp at h
    cases ht : thiL b (rdC b) w c r with
    | err e => rw [rdC_err ht]; trivial
    | ok ps rest =>
      have h1 := thi_rest ht
      have h2 := thi_few (fun t ht => rdC_few b n 2 t (by omega)) ht
      have h3 := rdC_few b n w rest (by omega)
      rw [rdC_ok ht]
      cases hr : rdC b w rest with
      | err e => trivial
      | ok qs =>
        rw [hr] at h3
        exact few_add h2 h3 (by simp; omega)
end Go.Proofs.YtnamfjbfcbamjaaGreatDoor
namespace Go.Proofs.YtnamfjbfcbamjaaGreatDoor
def kq (p : Prt) : Int × Bool := (p.kind, p.quote)
def Adj (l : List Prt) : Prop := ∀ (i : Nat) (a b : Int × Bool), (l.map kq)[i]? = some a → (l.map kq)[i + 1]? = some b → a.1 = 1 → b.1 = 1 → a.2 ≠ b.2
inductive ShP : Prt → Prop
  | mk (k : Int) (t : List UInt8) (q : Bool) (o : Int) (c : Bool) (s : List Prt) (h1 : 1 ≤ k) (h2 : k ≤ 4) (h3 : 0 ≤ o) (h4 : o ≤ 9) (h5 : k ≠ 2 → o = 0 ∧ c = false) (h6 : k = 1 → q = false → t ≠ []) (h7 : o < 2 → s = []) (h8 : c = true → 2 ≤ o ∧ o ≤ 5)
      (hs : ∀ p, p ∈ s → ShP p) (ha : Adj s) : ShP (.mk k t q o c s)
def ShA (l : List Prt) : Prop := ∀ p, p ∈ l → ShP p
def ShW (l : List Prt) : Prop := ShA l ∧ Adj l
theorem adj_nil : Adj [] := by intro i a b h; simp at h
theorem adj_one (p : Prt) : Adj [p] := by intro i a b _ h; simp at h
theorem sha_nil : ShA [] := by intro p h; cases h
theorem shw_nil : ShW [] := ⟨sha_nil, adj_nil⟩
theorem sha_one {p : Prt} (h : ShP p) : ShA [p] := by intro q hq; simp at hq; rw [hq]; exact h
theorem sha_app {a b : List Prt} (h : ShA a) (h2 : ShA b) : ShA (a ++ b) := by
  intro p hp
  rcases List.mem_append.1 hp with hp | hp
  · exact h p hp
  · exact h2 p hp
theorem adj_congr {a b : List Prt} (e : a.map kq = b.map kq) (h : Adj a) : Adj b := by unfold Adj at h ⊢; rwa [← e]
theorem adj_snoc {ps : List Prt} {x p : Prt} (h : Adj (ps ++ [x])) (hx : x.kind = 1 → p.kind = 1 → x.quote ≠ p.quote) : Adj (ps ++ [x, p]) := by
  intro i a b h1 h2
  have e : (ps ++ [x, p]).map kq = (ps ++ [x]).map kq ++ [kq p] := by simp
  have hl : ((ps ++ [x]).map kq).length = ps.length + 1 := by simp
  rw [e] at h1 h2
  by_cases hi : i + 1 < ps.length + 1
  · rw [List.getElem?_append_left (by omega)] at h1 h2
    exact h i a b h1 h2
  · by_cases hi2 : i = ps.length
    · subst hi2
      rw [List.getElem?_append_left (by omega)] at h1
      rw [List.getElem?_append_right (by omega), hl] at h2
      simp at h1 h2
      rw [← h1, ← h2]
      exact hx
    · rw [List.getElem?_append_right (by omega), hl] at h2
      have : i + 1 - (ps.length + 1) ≠ 0 := by omega
      obtain ⟨n, hn⟩ := Nat.exists_eq_succ_of_ne_zero this
      rw [hn] at h2
      simp at h2
theorem addP_sh {ps : List Prt} {p : Prt} (h : ShW ps) (hp : ShP p) : ShW (addP ps p) := by
  rcases List.eq_nil_or_concat ps with rfl | ⟨ps, x, rfl⟩
  · rw [addP_nil]
    exact ⟨sha_one hp, adj_one p⟩
  · obtain ⟨k, t, q, o, c, s⟩ := x
    simp only [List.concat_eq_append] at h ⊢
    rw [addP_snoc]
    have hx : ShP (.mk k t q o c s) := h.1 _ (by simp)
    have hps : ShA ps := fun y hy => h.1 y (by simp [hy])
    split
    · cases hx with
      | mk _ _ _ _ _ _ h1 h2 h3 h4 h5 h6 h7 h8 hs ha =>
        refine ⟨sha_app hps (sha_one (.mk _ _ _ _ _ _ h1 h2 h3 h4 h5 (fun a b => by simp [h6 a b]) h7 h8 hs ha)), adj_congr ?_ h.2⟩
        simp [kq, Prt.kind, Prt.quote]
    · rename_i hn
      refine ⟨?_, adj_snoc h.2 (fun a b e => hn ⟨a, b, e⟩)⟩
      rw [show ps ++ [Prt.mk k t q o c s, p] = (ps ++ [Prt.mk k t q o c s]) ++ [p] by simp]
      exact sha_app h.1 (sha_one hp)
theorem fold_sh : ∀ (qs ps : List Prt), ShW ps → ShA qs → ShW (qs.foldl addP ps)
  | [], ps, h, _ => h
  | q :: qs, ps, h, hq => by
    rw [List.foldl_cons]
    exact fold_sh qs _ (addP_sh h (hq q (by simp))) (fun p hp => hq p (by simp [hp]))
def ShRd (r : Rd) : Prop := ∀ ps, r = .ok ps → ShA ps
theorem sh_word {r : Rd} (h : ShRd r) {ps : List Prt} (e : r.word = .ok ps) : ShW ps := by
  cases r with
  | err e' => simp [Rd.word] at e
  | ok qs =>
    simp [Rd.word] at e
    rw [← e]
    exact fold_sh qs [] shw_nil (h qs rfl)
theorem sh_lit {t : List UInt8} {q : Bool} (h : q = true ∨ t ≠ []) : ShP (litP t q) :=
  .mk _ _ _ _ _ _ (by decide) (by decide) (by decide) (by decide) (fun _ => ⟨rfl, rfl⟩) (fun _ hq => by rcases h with h | h <;> simp_all) (fun _ => rfl) (fun h => by cases h) sha_nil adj_nil
theorem sh_plain {k : Int} {t : List UInt8} {q : Bool} (h1 : 2 ≤ k) (h2 : k ≤ 4) : ShP (.mk k t q 0 false []) :=
  .mk _ _ _ _ _ _ (by omega) h2 (by decide) (by decide) (fun _ => ⟨rfl, rfl⟩) (fun h => by omega) (fun _ => rfl) (fun h => by cases h) sha_nil adj_nil
theorem sh_setQ {p : Prt} {q : Bool} (h : ShP p) (hk : p.kind ≠ 1) : ShP (setQ q p) := by
  cases h with
  | mk _ _ _ _ _ _ h1 h2 h3 h4 h5 h6 h7 h8 hs ha => exact .mk _ _ _ _ _ _ h1 h2 h3 h4 h5 (fun h => absurd h hk) h7 h8 hs ha
theorem sgn_op {c : Bool} {l t : List UInt8} {o : Int} (h : sgnL c l = some (o, t)) : 2 ≤ o ∧ o ≤ 9 ∧ (c = true → o ≤ 5) := by
  unfold sgnL at h
  split at h <;> simp at h <;> obtain ⟨rfl, _⟩ := h <;> simp
theorem sh_brc {rd : Nat → List UInt8 → Rd} (hrd : ∀ w t, ShRd (rd w t)) {w : Nat} {l : List UInt8} {p : Prt} (h : brcL rd w l = .ok p) : ShP p ∧ p.kind ≠ 1 := by
  unfold brcL at h
  split at h
  · cases h
    exact ⟨.mk _ _ _ _ _ _ (by decide) (by decide) (by decide) (by decide) (fun h => absurd rfl h) (fun h => by cases h) (fun _ => rfl) (fun h => by cases h) sha_nil adj_nil, by simp [Prt.kind]⟩
  split at h
  · cases h
  split at h
  · cases h
    exact ⟨sh_plain (by decide) (by decide), by simp [Prt.kind]⟩
  cases hs : sgnL (colonL (l.drop (parN l))) (behindL (l.drop (parN l))) with
  | none => rw [hs] at h; cases h
  | some x =>
    obtain ⟨op, t⟩ := x
    rw [hs] at h
    simp only at h
    cases hr : (rd (withinW w op) t).word with
    | err e => rw [hr] at h; cases h
    | ok ps =>
      rw [hr] at h
      cases h
      have ho := sgn_op hs
      have hw := sh_word (hrd _ _) hr
      exact ⟨.mk _ _ _ _ _ _ (by decide) (by decide) (by omega) ho.2.1 (fun h => absurd rfl h) (fun h => by cases h) (fun h => by omega) (fun h => ⟨ho.1, ho.2.2 h⟩) hw.1 hw.2, by show (2 : Int) ≠ 1; decide⟩
theorem sh_pair (w : Nat) (u : List UInt8) : ShA (pairL w u) := by
  unfold pairL
  split
  · exact sha_nil
  split
  · exact sha_one (sh_lit (.inl rfl))
  split
  · exact sha_one (sh_lit (.inl rfl))
  · exact sha_one (sh_lit (.inl rfl))
theorem sh_run (l : List UInt8) : ShP (runP l) ∧ (runP l).kind ≠ 1 := by
  unfold runP
  split
  · exact ⟨sh_plain (by decide) (by decide), by simp [Prt.kind]⟩
  · exact ⟨sh_plain (by decide) (by decide), by simp [Prt.kind]⟩
theorem sh_lng {rd : Nat → List UInt8 → Rd} (hrd : ∀ w t, ShRd (rd w t)) {w : Nat} {u : List UInt8} {p : Prt} (h : lngL rd w u = .ok p) : ShP p ∧ p.kind ≠ 1 := by
  unfold lngL at h
  split at h
  · cases h
    exact sh_run _
  · exact sh_brc hrd h
theorem sh_thn {rd : Nat → List UInt8 → Rd} (hrd : ∀ w t, ShRd (rd w t)) {w : Nat} {c : UInt8} {u rest ps r} (h : thnL rd w c u rest = .ok ps r) : ShA ps := by
  unfold thnL at h
  split at h
  · cases h; exact sh_pair w u
  split at h
  · cases h; exact sha_one (sh_lit (.inl rfl))
  split at h
  · cases hr : (rd 2 u.dropLast).word with
    | err e => rw [hr] at h; cases h
    | ok qs =>
      rw [hr] at h
      cases h
      split
      · exact sha_one (sh_lit (.inl rfl))
      · exact (sh_word (hrd _ _) hr).1
  split at h
  · split at h
    · cases h; exact sha_one (sh_lit (.inl rfl))
    · cases h; exact sha_one (sh_plain (by decide) (by decide))
  split at h
  · cases hr : lngL rd w u with
    | err e => rw [hr] at h; cases h
    | ok p =>
      rw [hr] at h
      cases h
      have := sh_lng hrd hr
      exact sha_one (sh_setQ this.1 this.2)
  split at h
  · cases h
  · cases h; exact sha_one (sh_lit (.inr (by simp)))
theorem sh_thi {b : Bool} {rd : Nat → List UInt8 → Rd} (hrd : ∀ w t, ShRd (rd w t)) {w : Nat} {c : UInt8} {l ps r} (h : thiL b rd w c l = .ok ps r) : ShA ps := by
  unfold thiL at h
  split at h
  · cases h
  · exact sh_thn hrd h
theorem sh_rd (b : Bool) : ∀ (f w : Nat) (l : List UInt8), ShRd (rdL b f w l)
  | 0, w, l => by intro ps h; rw [rdL] at h; cases h; exact sha_nil
  | f + 1, w, [] => by intro ps h; rw [rdL] at h; cases h; exact sha_nil
  | f + 1, w, c :: r => by
    intro ps h
    rw [rdL] at h
    cases ht : thiL b (rdL b f) w c r with
    | err e => rw [ht] at h; cases h
    | ok qs rest =>
      rw [ht] at h
      simp only at h
      cases hq : rdL b f w rest with
      | err e => rw [hq] at h; cases h
      | ok rs =>
        rw [hq] at h
        cases h
        exact sha_app (sh_thi (sh_rd b f) ht) (sh_rd b f w rest rs hq)
theorem sh_wrd (b : Bool) (w : Nat) (l : List UInt8) : ShW (wrdL b w l).parts := by
  unfold wrdL
  split
  · exact shw_nil
  · cases h : (rdL b (l.length + 1) w l).word with
    | err e => exact shw_nil
    | ok ps => exact sh_word (sh_rd b _ w l) h
end Go.Proofs.YtnamfjbfcbamjaaGreatDoor
namespace Go.Proofs.YtnamfjbfcbamjaaGreatDoor
def bslL (E : List UInt8) : List UInt8 → List UInt8
  | [] => []
  | c :: r => if E.contains c then 92 :: c :: bslL E r else c :: bslL E r
theorem bslL_len (E : List UInt8) : ∀ l, (bslL E l).length ≤ 2 * l.length
  | [] => by simp [bslL]
  | c :: r => by
    have := bslL_len E r
    rw [bslL]
    split <;> simp <;> omega
theorem bslL_app (E : List UInt8) : ∀ a b, bslL E (a ++ b) = bslL E a ++ bslL E b
  | [], b => by simp [bslL]
  | c :: r, b => by
    rw [List.cons_append, bslL, bslL, bslL_app E r b]
    split <;> simp
def litT : Nat → List UInt8 → List UInt8
  | 0, t => quoteL t
  | 1, t => 34 :: (bslL [36, 34, 92, 96] t ++ [34])
  | 2, t => if t = [] then [34, 34] else bslL [36, 34, 92, 96, 125] t
  | _, t => bslL [36, 92, 96] t
def mrkT (w : Nat) : List UInt8 := if w ≤ 1 then [34] else []
def nxtT (w : Nat) (q : Bool) (op : Int) : Nat := if w = 0 ∧ q = false then 0 else if 6 ≤ op then 1 else 2
def opT (op : Int) : List UInt8 :=
  if op = 2 then [45] else if op = 3 then [61] else if op = 4 then [63] else if op = 5 then [43] else if op = 6 then [35] else if op = 7 then [35, 35] else if op = 8 then [37] else if op = 9 then [37, 37] else []
def prtOf (w : Nat) (p : Prt) (d : List UInt8) : List UInt8 :=
  if p.kind = 1 then (if p.quote then litT w p.text else p.text) else if p.quote then mrkT w ++ d ++ mrkT w else d
def dolOf (k : Int) (t : List UInt8) (op : Int) (c : Bool) (s : List UInt8) : List UInt8 :=
  if k = 2 then (if op < 0 ∨ 9 < op then [] else [36, 123] ++ (if op = 1 then [35] else []) ++ t ++ (if c then [58] else []) ++ opT op ++ (if 2 ≤ op then s else []) ++ [125])
  else if k = 3 then [36, 40] ++ t ++ [41] else if k = 4 then [36, 40, 40] ++ t ++ [41, 41] else []
mutual
def dolT (w : Nat) : Prt → List UInt8
  | .mk k t q op c s => dolOf k t op c (wrdT (nxtT w q op) s)
def wrdT (w : Nat) : List Prt → List UInt8
  | [] => []
  | p :: r => prtOf w p (dolT w p) ++ wrdT w r
end
def prtT (w : Nat) (p : Prt) : List UInt8 := prtOf w p (dolT w p)
theorem dolT_eq (w : Nat) (p : Prt) : dolT w p = dolOf p.kind p.text p.op p.colon (wrdT (nxtT w p.quote p.op) p.sub) := by cases p; rw [dolT]; rfl
theorem wrdT_nil (w : Nat) : wrdT w [] = [] := by rw [wrdT]
theorem wrdT_cons (w : Nat) (p : Prt) (r : List Prt) : wrdT w (p :: r) = prtT w p ++ wrdT w r := by rw [wrdT]; rfl
mutual
def tszP : Prt → Nat
  | .mk _ t _ _ _ s => 1 + t.length + tszL s
def tszL : List Prt → Nat
  | [] => 0
  | p :: r => tszP p + tszL r
end
theorem tszP_eq (p : Prt) : tszP p = 1 + p.text.length + tszL p.sub := by cases p; rw [tszP]; rfl
theorem tszL_nil : tszL [] = 0 := by rw [tszL]
theorem tszL_cons (p : Prt) (r : List Prt) : tszL (p :: r) = tszP p + tszL r := by rw [tszL]
theorem litT_len (w : Nat) (t : List UInt8) : (litT w t).length ≤ 4 * t.length + 2 := by
  unfold litT quoteL
  split
  · have := qBody_len t
    simp; omega
  · have := bslL_len [36, 34, 92, 96] t
    simp; omega
  · split
    · simp
    · have := bslL_len [36, 34, 92, 96, 125] t
      omega
  · have := bslL_len [36, 92, 96] t
    omega
theorem mrkT_len (w : Nat) : (mrkT w).length ≤ 1 := by unfold mrkT; split <;> simp
theorem opT_len (op : Int) : (opT op).length ≤ 2 := by unfold opT; repeat' split <;> try simp
theorem dolOf_len (k : Int) (t : List UInt8) (op : Int) (c : Bool) (s : List UInt8) : (dolOf k t op c s).length ≤ t.length + s.length + 7 := by
  have h := opT_len op
  have h1 : (if op = 1 then [(35 : UInt8)] else []).length ≤ 1 := by split <;> simp
  have h2 : (if c = true then [(58 : UInt8)] else []).length ≤ 1 := by split <;> simp
  have h3 : (if 2 ≤ op then s else []).length ≤ s.length := by split <;> simp
  unfold dolOf
  split
  · split
    · simp
    · simp only [List.length_append, List.length_cons, List.length_nil]
      omega
  · split
    · simp; omega
    · split
      · simp; omega
      · simp
theorem prtOf_len (w : Nat) (p : Prt) (d : List UInt8) (n : Nat) (h : d.length ≤ p.text.length + n + 7) : (prtOf w p d).length ≤ 9 * (1 + p.text.length) + n := by
  have h1 := mrkT_len w
  have h2 := litT_len w p.text
  unfold prtOf
  split
  · split <;> omega
  · split
    · simp only [List.length_append]; omega
    · omega
mutual
theorem prtT_len (w : Nat) : ∀ p : Prt, (prtOf w p (dolT w p)).length ≤ 9 * tszP p
  | .mk k t q op c s => by
    have h := wrdT_len (nxtT w q op) s
    have h2 := dolOf_len k t op c (wrdT (nxtT w q op) s)
    have h3 := prtOf_len w (.mk k t q op c s) (dolT w (.mk k t q op c s)) (9 * tszL s) (by rw [dolT]; show _ ≤ t.length + _ + 7; omega)
    rw [tszP]
    have h4 : (Prt.mk k t q op c s).text = t := rfl
    rw [h4] at h3
    omega
theorem wrdT_len (w : Nat) : ∀ l : List Prt, (wrdT w l).length ≤ 9 * tszL l
  | [] => by rw [wrdT]; simp
  | p :: r => by
    have h1 := prtT_len w p
    have h2 := wrdT_len w r
    rw [wrdT, tszL, List.length_append]
    omega
end
def Cut (out full : List UInt8) : Prop := out = full ∨ (4096 < out.length ∧ out.length ≤ full.length)
theorem Cut.refl (l : List UInt8) : Cut l l := .inl rfl
theorem Cut.app {a b : List UInt8} (h : Cut a b) (t : List UInt8) : Cut (a ++ t) (b ++ t) := by
  rcases h with h | ⟨h1, h2⟩
  · exact .inl (by rw [h])
  · exact .inr ⟨by rw [List.length_append]; omega, by rw [List.length_append, List.length_append]; omega⟩
theorem Cut.len {a b : List UInt8} (h : Cut a b) : a.length ≤ b.length := by
  rcases h with h | ⟨h1, h2⟩
  · rw [h]; exact Nat.le_refl _
  · exact h2
theorem Cut.stop {a b : List UInt8} (h : Cut a b) (hl : 4096 < a.length) (t : List UInt8) : Cut a (b ++ t) := .inr ⟨hl, by have := h.len; rw [List.length_append]; omega⟩
end Go.Proofs.YtnamfjbfcbamjaaGreatDoor

/-
  Words in memory: a slice of parts, each of six cells; the words in them, likewise.
-/
import Derived.Test.YtodcfgbcigjjfaaDoorWPure
import Derived.Test.YtodcfgbcigjjfaaDoorPiece
import Derived.Test.YtodcfgbcigjjfaaDoorOwn
namespace Go.Proofs.YtodcfgbcigjjfaaDoor
open Go.RowKit

theorem BA_toList (l : List UInt8) : (BA l).toList = l := by rw [ByteArray.toList_eq]; rfl
mutual
/-- A part at an address, the words in it in blocks of A. -/
def PAt (w : World) (A : Nat → Prop) (g o : Nat) : Prt → Prop
  | .mk k t q op c s => w.cell? ⟨g, o, none⟩ = some (.int .i64 k) ∧ w.cell? ⟨g, o + 1, none⟩ = some (.string (BA t)) ∧ w.cell? ⟨g, o + 2, none⟩ = some (.bool q) ∧ w.cell? ⟨g, o + 3, none⟩ = some (.int .i64 op) ∧ w.cell? ⟨g, o + 4, none⟩ = some (.bool c) ∧
    ∃ ad cap, w.cell? ⟨g, o + 5, none⟩ = some (.slice ad s.length cap) ∧ s.length ≤ 9223372036854775807 ∧ (s = [] ∨ ∃ g' o', ad = some ⟨g', o', none⟩ ∧ A g' ∧ PsAt w A g' o' s)
/-- Parts, one behind the other. -/
def PsAt (w : World) (A : Nat → Prop) (g o : Nat) : List Prt → Prop
  | [] => True
  | p :: r => PAt w A g o p ∧ PsAt w A g (o + 6) r
end
/-- A word's slice. -/
def WAt (w : World) (A : Nat → Prop) (v : Value) (s : List Prt) : Prop :=
  ∃ ad cap, v = .slice ad s.length cap ∧ s.length ≤ 9223372036854775807 ∧ (s = [] ∨ ∃ g o, ad = some ⟨g, o, none⟩ ∧ A g ∧ PsAt w A g o s)

theorem PAt_mk (w : World) (A : Nat → Prop) (g o : Nat) (k t q op c s) : PAt w A g o (.mk k t q op c s) ↔ (w.cell? ⟨g, o, none⟩ = some (.int .i64 k) ∧ w.cell? ⟨g, o + 1, none⟩ = some (.string (BA t)) ∧ w.cell? ⟨g, o + 2, none⟩ = some (.bool q) ∧ w.cell? ⟨g, o + 3, none⟩ = some (.int .i64 op) ∧ w.cell? ⟨g, o + 4, none⟩ = some (.bool c) ∧
    ∃ v, w.cell? ⟨g, o + 5, none⟩ = some v ∧ WAt w A v s) := by
  rw [PAt]
  constructor
  · rintro ⟨h0, h1, h2, h3, h4, ad, cap, h5, h6, h7⟩
    exact ⟨h0, h1, h2, h3, h4, _, h5, ad, cap, rfl, h6, h7⟩
  · rintro ⟨h0, h1, h2, h3, h4, v, h5, ad, cap, rfl, h6, h7⟩
    exact ⟨h0, h1, h2, h3, h4, ad, cap, h5, h6, h7⟩
theorem PsAt_cons (w : World) (A : Nat → Prop) (g o : Nat) (p : Prt) (r : List Prt) : PsAt w A g o (p :: r) ↔ PAt w A g o p ∧ PsAt w A g (o + 6) r := by rw [PsAt]
theorem PsAt_nil (w : World) (A : Nat → Prop) (g o : Nat) : PsAt w A g o [] := by rw [PsAt]; trivial
theorem wat_nil (w : World) (A : Nat → Prop) (ad : Option Addr) (cap : Nat) : WAt w A (.slice ad 0 cap) [] := ⟨ad, cap, rfl, by simp, .inl rfl⟩

theorem PsAt.get {w : World} {A : Nat → Prop} {g : Nat} : ∀ {l : List Prt} {o i : Nat} {p : Prt}, PsAt w A g o l → l[i]? = some p → PAt w A g (o + i * 6) p
  | x :: r, o, 0, p, h, hi => by
    simp at hi
    subst hi
    have := ((PsAt_cons w A g o x r).1 h).1
    simpa using this
  | x :: r, o, i + 1, p, h, hi => by
    have := PsAt.get (i := i) ((PsAt_cons w A g o x r).1 h).2 (by simpa using hi)
    rw [show o + (i + 1) * 6 = o + 6 + i * 6 by omega]
    exact this
theorem PsAt.of {w : World} {A : Nat → Prop} {g : Nat} : ∀ {l : List Prt} {o : Nat}, (∀ i p, l[i]? = some p → PAt w A g (o + i * 6) p) → PsAt w A g o l
  | [], o, _ => PsAt_nil w A g o
  | x :: r, o, h => (PsAt_cons w A g o x r).2 ⟨by have := h 0 x rfl; simpa using this, PsAt.of (fun i p hi => by have := h (i + 1) p (by simpa using hi); rwa [show o + (i + 1) * 6 = o + 6 + i * 6 by omega] at this)⟩
mutual
theorem PAt.kept {w w' : World} {A B : Nat → Prop} (hk : ∀ k, A k → w'.heap[k]? = w.heap[k]?) (hm : ∀ k, A k → B k) : ∀ {p : Prt} {g o : Nat}, A g → PAt w A g o p → PAt w' B g o p
  | .mk k t q op c s, g, o, hg, h => by
    rw [PAt] at h ⊢
    obtain ⟨h0, h1, h2, h3, h4, ad, cap, h5, h6, h7⟩ := h
    have hc : ∀ j, w'.cell? ⟨g, j, none⟩ = w.cell? ⟨g, j, none⟩ := fun j => World.cell?_of_block (w := w) (a := ⟨g, j, none⟩) (hk g hg)
    refine ⟨(hc _).trans h0, (hc _).trans h1, (hc _).trans h2, (hc _).trans h3, (hc _).trans h4, ad, cap, (hc _).trans h5, h6, ?_⟩
    rcases h7 with h7 | ⟨g', o', h7, h8, h9⟩
    · exact .inl h7
    · exact .inr ⟨g', o', h7, hm _ h8, PsAt.kept hk hm h8 h9⟩
theorem PsAt.kept {w w' : World} {A B : Nat → Prop} (hk : ∀ k, A k → w'.heap[k]? = w.heap[k]?) (hm : ∀ k, A k → B k) : ∀ {l : List Prt} {g o : Nat}, A g → PsAt w A g o l → PsAt w' B g o l
  | [], g, o, _, _ => PsAt_nil w' B g o
  | p :: r, g, o, hg, h => (PsAt_cons w' B g o p r).2 ⟨PAt.kept hk hm hg ((PsAt_cons w A g o p r).1 h).1, PsAt.kept hk hm hg ((PsAt_cons w A g o p r).1 h).2⟩
end
theorem WAt.kept {w w' : World} {A B : Nat → Prop} {v : Value} {s : List Prt} (h : WAt w A v s) (hk : ∀ k, A k → w'.heap[k]? = w.heap[k]?) (hm : ∀ k, A k → B k) : WAt w' B v s := by
  obtain ⟨ad, cap, hv, hl, h⟩ := h
  refine ⟨ad, cap, hv, hl, ?_⟩
  rcases h with h | ⟨g, o, h1, h2, h3⟩
  · exact .inl h
  · exact .inr ⟨g, o, h1, hm _ h2, PsAt.kept hk hm h2 h3⟩
/-- A word that lies in blocks below n lies on where these do. -/
theorem WAt.below {w w' : World} {A : Nat → Prop} {v : Value} {s : List Prt} {n : Nat} (h : WAt w A v s) (hb : Below n w w') (hn : ∀ k, A k → k < n) : WAt w' A v s :=
  h.kept (fun k hk => hb.block k (hn k hk)) (fun _ h => h)
/-- The value of a part. -/
def PV (w : World) (A : Nat → Prop) (x : Value) (p : Prt) : Prop := ∃ v, x = .agg #[.int .i64 p.kind, .string (BA p.text), .bool p.quote, .int .i64 p.op, .bool p.colon, v] ∧ WAt w A v p.sub
theorem PV.kept {w w' : World} {A B : Nat → Prop} {x : Value} {p : Prt} (h : PV w A x p) (hk : ∀ k, A k → w'.heap[k]? = w.heap[k]?) (hm : ∀ k, A k → B k) : PV w' B x p := by
  obtain ⟨v, hx, h⟩ := h
  exact ⟨v, hx, h.kept hk hm⟩
/-- The six cells of the i-th part. -/
theorem WAt.part {w : World} {A : Nat → Prop} {ad : Option Addr} {n cap : Nat} {s : List Prt} (h : WAt w A (.slice ad n cap) s) {i : Nat} {p : Prt} (hi : s[i]? = some p) :
    ∃ g o v, ad = some ⟨g, o, none⟩ ∧ A g ∧ w.cell? ⟨g, o + i * 6, none⟩ = some (.int .i64 p.kind) ∧ w.cell? ⟨g, o + i * 6 + 1, none⟩ = some (.string (BA p.text)) ∧ w.cell? ⟨g, o + i * 6 + 2, none⟩ = some (.bool p.quote) ∧
      w.cell? ⟨g, o + i * 6 + 3, none⟩ = some (.int .i64 p.op) ∧ w.cell? ⟨g, o + i * 6 + 4, none⟩ = some (.bool p.colon) ∧ w.cell? ⟨g, o + i * 6 + 5, none⟩ = some v ∧ WAt w A v p.sub := by
  obtain ⟨ad', cap', hv, hl, h⟩ := h
  cases hv
  rcases h with h | ⟨g, o, h1, h2, h3⟩
  · rw [h] at hi
    simp at hi
  · obtain ⟨k, t, q, op, c, sub⟩ := p
    obtain ⟨c0, c1, c2, c3, c4, v, c5, hs⟩ := (PAt_mk ..).1 (h3.get hi)
    exact ⟨g, o, v, h1, h2, c0, c1, c2, c3, c4, c5, hs⟩
theorem WAt.len {w : World} {A : Nat → Prop} {v : Value} {s : List Prt} (h : WAt w A v s) : ∃ ad cap, v = .slice ad s.length cap ∧ s.length ≤ 9223372036854775807 := by
  obtain ⟨ad, cap, hv, hl, _⟩ := h
  exact ⟨ad, cap, hv, hl⟩
theorem sub_lt (p : Prt) (l : List Prt) (h : p ∈ l) : SizeOf.sizeOf p.sub < SizeOf.sizeOf l := by
  have := List.sizeOf_lt_of_mem h
  obtain ⟨k, t, q, op, c, s⟩ := p
  have h2 : SizeOf.sizeOf (Prt.mk k t q op c s) = 1 + SizeOf.sizeOf k + SizeOf.sizeOf t + SizeOf.sizeOf q + SizeOf.sizeOf op + SizeOf.sizeOf c + SizeOf.sizeOf s := Prt.mk.sizeOf_spec ..
  show SizeOf.sizeOf s < SizeOf.sizeOf l
  omega

end Go.Proofs.YtodcfgbcigjjfaaDoor

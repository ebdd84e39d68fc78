/-
  The lexer's tokens; 'add'.
-/
import Derived.Test.YtlmpdfeidjnmnaaDoorBld
namespace Go.Proofs.YtlmpdfeidjnmnaaDoor
open Go.RowKit

/-- From w to w1: new blocks, and of the old ones only such as S names have turned. -/
structure GrownS (w w1 : World) (S : Nat → Prop) : Prop where
  os : w1.os = w.os
  tape : w1.tape = w.tape
  output : w1.output = w.output
  size : w.heap.size ≤ w1.heap.size
  block : ∀ k, k < w.heap.size → ¬ S k → w1.heap[k]? = w.heap[k]?
theorem GrownS.of {w w1 : World} {row : Option Nat} {S : Nat → Prop} (h : w.grownBy w1 row) (hs : ∀ k, some k = row → S k) : GrownS w w1 S :=
  ⟨h.os, h.tape, h.output, h.size, fun k hk hn => h.block k hk (fun e => hn (hs k e))⟩
theorem GrownS.trans {w w1 w2 : World} {S : Nat → Prop} (h : GrownS w w1 S) (h2 : GrownS w1 w2 S) : GrownS w w2 S :=
  ⟨h2.os.trans h.os, h2.tape.trans h.tape, h2.output.trans h.output, Nat.le_trans h.size h2.size, fun k hk hn => (h2.block k (Nat.lt_of_lt_of_le hk h.size) hn).trans (h.block k hk hn)⟩
theorem GrownS.mono {w w1 : World} {S T : Nat → Prop} (h : GrownS w w1 S) (hs : ∀ k, k < w.heap.size → S k → T k) : GrownS w w1 T :=
  ⟨h.os, h.tape, h.output, h.size, fun k hk hn => h.block k hk (fun e => hn (hs k hk e))⟩
theorem GrownS.below {w w1 : World} {S : Nat → Prop} {n : Nat} (h : GrownS w w1 S) (hn : n ≤ w.heap.size) (hs : ∀ k, S k → n ≤ k) : Below n w w1 :=
  ⟨h.os, h.tape, h.output, h.size, fun k hk => h.block k (by omega) (fun e => by have := hs k e; omega)⟩
theorem Blk.grownS {w w1 : World} {S : Nat → Prop} {b : Nat} {t : TypeId} {cs : Array Value} (h : Blk w b t cs) (hg : GrownS w w1 S) (hb : ¬ S b) : Blk w1 b t cs := (hg.block b h.lt hb).trans h

/-- A token. -/
structure Tok where
  kind : Int
  text : ByteArray
  pos : Int
  body : ByteArray
  raw : Bool
def Tok.cells (t : Tok) : Array Value := #[.int .i64 t.kind, .string t.text, .int .i64 t.pos, .string t.body, .bool t.raw]
def ptrs (ps : List Nat) : List Value := ps.map (fun p => Value.pointer (some ⟨p, 0, none⟩))
theorem ptrs_len (ps : List Nat) : (ptrs ps).length = ps.length := by simp [ptrs]

/-- v is the lexer's own row of the tokens ts, which lie in the blocks ps. -/
structure Toks (w : World) (base : Nat) (v : Value) (ps : List Nat) (ts : List Tok) : Prop where
  row : w.ownsRow base 55 1 v ps.length (ptrs ps)
  len : ps.length = ts.length
  blk : ∀ (i p : Nat) (t : Tok), ps[i]? = some p → ts[i]? = some t → base ≤ p ∧ Blk w p 37 t.cells
  inc : ps.Pairwise (fun a b => a < b)
theorem Toks.at {w : World} {base : Nat} {v : Value} {ps : List Nat} {ts : List Tok} (h : Toks w base v ps ts) {p : Nat} (hp : p ∈ ps) : base ≤ p ∧ ∃ t, Blk w p 37 (Tok.cells t) := by
  obtain ⟨i, hi, rfl⟩ := List.getElem_of_mem hp
  have hi2 : i < ts.length := by rw [← h.len]; exact hi
  obtain ⟨h1, h2⟩ := h.blk i ps[i] ts[i] (List.getElem?_eq_getElem hi) (List.getElem?_eq_getElem hi2)
  exact ⟨h1, _, h2⟩
theorem toks_nil (w : World) (base : Nat) : Toks w base (.slice none 0 0) [] [] :=
  ⟨World.ownsRow_nil _ _ _ _, rfl, fun i p t h => by simp at h, List.Pairwise.nil⟩
/-- The row's block holds pointers: it is no token's and no other thing's. -/
theorem own_type {w : World} {base n k : Nat} {e t : TypeId} {v : Value} {xs : List Value} {cs : Array Value} (h : w.ownsRow base e 1 v n xs) (hb : Blk w k t cs) (hne : t ≠ e) : some k ≠ v.ownBlock := by
  rcases h.2 with ⟨rfl, _⟩ | ⟨g, cap, cur, rfl, _, hg, _⟩
  · simp [Value.ownBlock]
  · intro hk
    have hk : k = g := by simpa [Value.ownBlock] using hk
    subst hk
    rw [show w.heap[k]? = _ from hb] at hg
    injection hg with hg
    injection hg with _ h2 _
    exact hne h2

theorem und_toks : Tryd.prog.underlying 50 = some (.slice 55) := by kernel_rfl
theorem info_tokp : (Tryd.prog.info? 55).map (fun i => (i.zero, i.size, i.bytes)) = some (some (.pointer none), 1, 8) := by kernel_rfl

theorem Rdr.grownS {w w1 : World} {b : Nat} {t : TypeId} {tl : List Value} {s : ByteArray} {p d : Nat} {f bl : Int} {S : Nat → Prop} (h : Rdr w b t tl s p d f bl) (hg : GrownS w w1 S) (hb : ¬ S b) : Rdr w1 b t tl s p d f bl := ⟨h.blk.grownS hg hb, h.le, h.len, h.dle⟩
theorem Rdr.toks {w : World} {b : Nat} {t : TypeId} {v u : Value} {s : ByteArray} {p d : Nat} {f bl : Int} (h : Rdr w b t [v, u] s p d f bl) (v' : Value) : Rdr (w.setCell ⟨b, 5, none⟩ v') b t [v', u] s p d f bl := by
  refine ⟨?_, h.le, h.len, h.dle⟩
  have := h.blk.set 5 v'
  rwa [List.setIfInBounds_toArray] at this
theorem Rdr.waits {w : World} {b : Nat} {t : TypeId} {v u : Value} {s : ByteArray} {p d : Nat} {f bl : Int} (h : Rdr w b t [v, u] s p d f bl) (u' : Value) : Rdr (w.setCell ⟨b, 6, none⟩ u') b t [v, u'] s p d f bl := by
  refine ⟨?_, h.le, h.len, h.dle⟩
  have := h.blk.set 6 u'
  rwa [List.setIfInBounds_toArray] at this

theorem one_ptr {w : World} {x : Value} {t : TypeId} : ∀ j u, [x][j]? = some u → (w.alloc (.cells #[x] t)).cell? ((⟨w.heap.size, 0, none⟩ : Addr).add j) = some u := by
  intro j u hj
  match j, hj with
  | 0, hj => simp at hj; subst hj; rw [add_at]; go_simp

/-- A token more. -/
theorem Toks.push {w w1 : World} {b : Nat} {v v' : Value} {ps : List Nat} {ts : List Tok} {q : Nat} {t : Tok} {L : Array Value} (h : Toks w (b + 1) v ps ts) (hL : Blk w1 b 53 L) (hg : GrownS w w1 (fun k => some k = v.ownBlock)) (hq : w.heap.size ≤ q) (hbq : b < q) (hn : Blk w1 q 37 t.cells) (hrow : w1.ownsRow (b + 1) 55 1 v' (ps.length + 1) (ptrs ps ++ [.pointer (some ⟨q, 0, none⟩)])) : Toks (w1.setCell ⟨b, 5, none⟩ v') (b + 1) v' (ps ++ [q]) (ts ++ [t]) := by
  have hne : some b ≠ v'.ownBlock := own_type hrow hL (by decide)
  refine ⟨?_, ?_, ?_, ?_⟩
  · have e : ptrs (ps ++ [q]) = ptrs ps ++ [.pointer (some ⟨q, 0, none⟩)] := by simp [ptrs]
    rw [e, List.length_append]
    exact hrow.kept (row := some b) (grown_setCell w1 ⟨b, 5, none⟩ v') (Or.inr (fun e => hne e.symm))
  · rw [List.length_append, List.length_append, h.len]; rfl
  · intro i p t' hp ht'
    rcases Nat.lt_or_ge i ps.length with hi | hi
    · rw [List.getElem?_append_left hi] at hp
      rw [List.getElem?_append_left (by rw [← h.len]; exact hi)] at ht'
      obtain ⟨h1, h2⟩ := h.blk i p t' hp ht'
      exact ⟨h1, (h2.grownS hg (own_type h.row h2 (by decide))).other (a := ⟨b, 5, none⟩) (by show p ≠ b; omega) _⟩
    · rw [List.getElem?_append_right hi] at hp
      rw [List.getElem?_append_right (by rw [← h.len]; exact hi)] at ht'
      have h0 : i - ps.length = 0 := by
        have := (List.getElem?_eq_some_iff.1 hp).1
        simp at this
        omega
      rw [h0] at hp
      rw [← h.len, h0] at ht'
      simp at hp ht'
      subst hp ht'
      exact ⟨hbq, hn.other (a := ⟨b, 5, none⟩) (by show q ≠ b; omega) _⟩
  · rw [List.pairwise_append]
    refine ⟨h.inc, by simp, ?_⟩
    intro x hx y hy
    simp at hy
    subst hy
    obtain ⟨_, t', h2⟩ := h.at hx
    have := h2.lt
    omega

set_option maxRecDepth 20000 in
set_option maxHeartbeats 2000000 in
theorem add_any (w : World) (b : Nat) (v u : Value) (s : ByteArray) (p d : Nat) (ps : List Nat) (ts : List Tok) (kind pos : Int) (text : ByteArray) (h : Rdr w b 53 [v, u] s p d 0 0) (ht : Toks w (b + 1) v ps ts) (hl : ts.length ≤ 100000) :
    Calls Tryd.prog 41 #[.pointer (some ⟨b, 0, none⟩), .int .i64 kind, .string text, .int .i64 pos] w fun e w' => e = .returned (.tuple #[]) ∧ ∃ v' q, Rdr w' b 53 [v', u] s p d 0 0 ∧ Toks w' (b + 1) v' (ps ++ [q]) (ts ++ [⟨kind, text, pos, ⟨#[]⟩, false⟩]) ∧ GrownS w w' (fun k => k = b ∨ some k = v.ownBlock) ∧ w.heap.size ≤ q := by
  obtain ⟨i0, hi, hz0, hz1, hz2⟩ := info_of info_tokp
  have c5 : w.cell? ⟨b, 5, none⟩ = some v := h.blk.cell 5 (by simp)
  have hbl := h.blk.lt
  have hpl : ps.length ≤ 100000 := by rw [ht.len]; exact hl
  have HR := hide h
  have HT := hide ht
  have hrow := ht.row
  clear h ht
  go_enter Tryd.func41, Tryd.ntmps41
  go_wp2_with (first
    | (at_builtin; refine wpList_append_own _ rfl (.tmp 12) (.tmp 18) 50 rfl (b + 1) 55 i0 (.pointer none) 1 8 und_toks hi hz0 hz1 hz2 rfl (by decide) _ _ _ rfl ((World.ownsRow.alloc (World.ownsRow.alloc hrow _) _)) ⟨w.heap.size + 1, 0, none⟩ 1 1 [.pointer (some ⟨w.heap.size, 0, none⟩)] rfl rfl ?c1 ?c2 ?c3 ?c4 ?c5 ?_)
    | go_in)
  case c1 =>
    intro j x hj
    match j, hj with
    | 0, hj => simp at hj; subst hj; rw [add_at]; go_simp
  case c2 => intro x hx; simp at hx; subst hx; rfl
  case c3 => unfold maxLen; omega
  case c4 => omega
  case c5 => simp; omega
  intro v' w1 hown' hgrow _
  have hg : GrownS w w1 (fun k => some k = v.ownBlock) := (GrownS.of (World.grownBy_alloc w _ none) (by simp)).trans ((GrownS.of (World.grownBy_alloc _ _ none) (by simp)).trans (GrownS.of hgrow (fun _ e => e)))
  have hb0 : some b ≠ v.ownBlock := own_type hrow (unhide HR).blk (by decide)
  have h1 := (unhide HR).grownS hg hb0
  have hn0 : Blk ((w.alloc (.cells (Tok.cells ⟨kind, text, pos, ⟨#[]⟩, false⟩) 37)).alloc (.cells #[.pointer (some ⟨w.heap.size, 0, none⟩)] 55)) w.heap.size 37 (Tok.cells ⟨kind, text, pos, ⟨#[]⟩, false⟩) := (Blk.new w _ _).alloc _
  have hn : Blk w1 w.heap.size 37 (Tok.cells ⟨kind, text, pos, ⟨#[]⟩, false⟩) := hn0.kept hgrow (own_type (World.ownsRow.alloc (World.ownsRow.alloc hrow _) _) hn0 (by decide))
  have HF := hide ((unhide HT).push (v' := v') h1.blk hg (Nat.le_refl _) hbl hn hown')
  have HG := hide hg
  have H1 := hide h1
  have d5 : w1.cell? ⟨b, 5, none⟩ = some v := h1.blk.cell 5 (by simp)
  have z5 : w1.frozen? ⟨b, 5, none⟩ = false := h1.blk.frozen 5
  obtain ⟨ao, n', cap, rfl⟩ : ∃ ao n' cap, v' = .slice ao n' cap := by
    rcases hown'.2 with ⟨hv, _⟩ | ⟨g, cap, cur, hv, _⟩
    · exact ⟨_, _, _, hv⟩
    · exact ⟨_, _, _, hv⟩
  clear hn hn0 h1 hb0 hg hown' hgrow hrow
  go_wp2
  refine bodyPost_end (res0 rfl _ _) rfl ?_
  exact ⟨rfl, _, w.heap.size, (unhide H1).toks _, unhide HF, ((unhide HG).mono (fun _ _ e => .inr e)).trans (GrownS.of (grown_setCell w1 ⟨b, 5, none⟩ _) (fun k e => .inl (by simpa using e))), Nat.le_refl _⟩

end Go.Proofs.YtlmpdfeidjnmnaaDoor

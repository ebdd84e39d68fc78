/-
  The tokens for the caller: the lexer's 'found'.
-/
import Derived.Test.YtlmpdfeidjnmnaaDoorToks
namespace Go.Proofs.YtlmpdfeidjnmnaaDoor
open Go.RowKit

/-- The cells of a row of tokens. -/
def flatT (ts : List Tok) : List Value := ts.flatMap (fun t => t.cells.toList)
theorem flatT_snoc (ts : List Tok) (t : Tok) : flatT (ts ++ [t]) = flatT ts ++ [.int .i64 t.kind, .string t.text, .int .i64 t.pos, .string t.body, .bool t.raw] := by simp [flatT, Tok.cells]
theorem und_tokl : Tryd.prog.underlying 27 = some (.slice 37) := by kernel_rfl
theorem info_tok : (Tryd.prog.info? 37).map (fun i => (i.zero, i.size, i.bytes)) = some (some (.agg #[.int .i64 0, .string ⟨#[]⟩, .int .i64 0, .string ⟨#[]⟩, .bool false]), 5, 56) := by kernel_rfl
theorem five_cells {w : World} {t : TypeId} {a c d e f : Value} : ∀ j u, [a, c, d, e, f][j]? = some u → (w.alloc (.cells #[a, c, d, e, f] t)).cell? ((⟨w.heap.size, 0, none⟩ : Addr).add j) = some u := by
  intro j u hj
  rw [add_at]
  match j, hj with
  | 0, hj => simp at hj; subst hj; go_simp
  | 1, hj => simp at hj; subst hj; go_simp
  | 2, hj => simp at hj; subst hj; go_simp
  | 3, hj => simp at hj; subst hj; go_simp
  | 4, hj => simp at hj; subst hj; go_simp
theorem five_one (t : Tok) : ∀ u ∈ [Value.int .i64 t.kind, .string t.text, .int .i64 t.pos, .string t.body, .bool t.raw], u.oneCell' = true := by
  intro u hu
  simp at hu
  rcases hu with rfl | rfl | rfl | rfl | rfl <;> rfl

/-- Where a row of pointers lies. -/
theorem ptr_shape {w : World} {base n : Nat} {e : TypeId} {v : Value} {ps : List Nat} (h : w.ownsRow base e 1 v n (ptrs ps)) (hn : n = ps.length) : ∃ ad cap, v = .slice ad n cap ∧ ∀ (k q : Nat), ps[k]? = some q → ∃ g, ad = some ⟨g, 0, none⟩ ∧ g < w.heap.size ∧ w.cell? ⟨g, k, none⟩ = some (.pointer (some ⟨q, 0, none⟩)) := by
  obtain ⟨h1, ⟨rfl, h0⟩ | ⟨g, cap, cur, rfl, _, hg, _, _, _, htk⟩⟩ := h
  · refine ⟨none, 0, by rw [h0], fun k q hk => ?_⟩
    have : ps = [] := List.eq_nil_of_length_eq_zero (by omega)
    rw [this] at hk
    simp at hk
  · refine ⟨_, cap, rfl, fun k q hk => ⟨g, rfl, (Array.getElem?_eq_some_iff.1 hg).1, ?_⟩⟩
    have hkl := (List.getElem?_eq_some_iff.1 hk).1
    have hp : (ptrs ps)[k]? = some (.pointer (some ⟨q, 0, none⟩)) := by simp [ptrs, hk]
    rw [← htk, List.getElem?_take, if_pos (by omega)] at hp
    exact Blk.cell (show Blk w g e cur from hg) k (by simpa using hp)

set_option maxRecDepth 20000 in
set_option maxHeartbeats 4000000 in
theorem found_any (w : World) (b : Nat) (v u : Value) (s : ByteArray) (p d : Nat) (f bl : Int) (ps : List Nat) (ts : List Tok) (h : Rdr w b 53 [v, u] s p d f bl) (ht : Toks w (b + 1) v ps ts) (hl : ts.length ≤ 100000) :
    Calls Tryd.prog 22 #[.pointer (some ⟨b, 0, none⟩)] w fun e w' => ∃ v', e = .returned v' ∧ w'.ownsRow w.heap.size 37 5 v' ts.length (flatT ts) ∧ Below w.heap.size w w' := by
  obtain ⟨i0, hi, hz0, hz1, hz2⟩ := info_of info_tok
  have c5 : w.cell? ⟨b, 5, none⟩ = some v := h.blk.cell 5 (by simp)
  obtain ⟨ad, cap, rfl, hsh⟩ := ptr_shape ht.row rfl
  have HS := hide hsh
  have HT := hide ht
  have HPL := hide ht.len
  obtain ⟨n, hn⟩ : ∃ n, n = ps.length := ⟨_, rfl⟩
  rw [← hn] at c5
  have HN := hide (show n = ts.length by rw [hn]; exact ht.len)
  have hn1 : n ≤ 100000 := by rw [hn, ht.len]; exact hl
  clear h ht hsh hn hl
  go_enter Tryd.func22, Tryd.ntmps22
  go_wp2_with fail
  go_loopw [3, 11] (fun ov i wr => ∃ k : Nat, k ≤ n ∧ i = .int .i64 k ∧ Hid (wr.ownsRow w.heap.size 37 5 ov k (flatT (ts.take k))) ∧ Hid (Below w.heap.size w wr)) (fun _ i _ => n - (intOf i).toNat)
  case atStart => exact ⟨0, by omega, rfl, hide (World.ownsRow_nil _ _ _ _), hide (Below.refl _ _)⟩
  case round =>
    obtain ⟨k, hk, rfl, HO, HB⟩ := hrel
    by_cases hlt : k < n
    · have hk1 : k < ts.length := by have := unhide HN; omega
      have hk2 : k < ps.length := by have := unhide HPL; omega
      obtain ⟨q, hq⟩ : ∃ q, ps[k]? = some q := ⟨_, List.getElem?_eq_getElem hk2⟩
      obtain ⟨t, htt⟩ : ∃ t, ts[k]? = some t := ⟨_, List.getElem?_eq_getElem hk1⟩
      obtain ⟨g, rfl, hg, hcell⟩ := unhide HS k q hq
      obtain ⟨_, hb⟩ := (unhide HT).blk k q t hq htt
      have hp1 := ((unhide HB).cell (p := ⟨g, k, none⟩) hg).trans hcell
      have hb' := hb.below (unhide HB) hb.lt
      have q0 : wr.cell? ⟨q, 0, none⟩ = some (.int .i64 t.kind) := hb'.cell 0 rfl
      have q1 : wr.cell? ⟨q, 1, none⟩ = some (.string t.text) := hb'.cell 1 rfl
      have q2 : wr.cell? ⟨q, 2, none⟩ = some (.int .i64 t.pos) := hb'.cell 2 rfl
      have q3 : wr.cell? ⟨q, 3, none⟩ = some (.string t.body) := hb'.cell 3 rfl
      have q4 : wr.cell? ⟨q, 4, none⟩ = some (.bool t.raw) := hb'.cell 4 rfl
      have HTK : Hid (ts.take (k + 1) = ts.take k ++ [t]) := hide (by rw [List.take_add_one, htt]; rfl)
      have hws := (unhide HB).size
      have hlt' : (k : Int) < (n : Int) := by omega
      have hk0 : (0 : Int) ≤ (k : Int) := by omega
      clear hk1 hk2 hq htt hg hcell hb hb'
      go_wp2_with (first
        | (at_builtin; refine wpList_append_own _ rfl (.tmp 15) (.tmp 19) 27 rfl w.heap.size 37 i0 _ 5 56 und_tokl hi hz0 hz1 hz2 rfl (by decide) _ _ _ rfl (World.ownsRow.alloc (unhide HO) _) ⟨wr.heap.size, 0, none⟩ 1 1 [.int .i64 t.kind, .string t.text, .int .i64 t.pos, .string t.body, .bool t.raw] rfl rfl five_cells (five_one t) ?c3 ?c4 ?c5 ?_)
        | go_in)
      case c3 => unfold maxLen; omega
      case c4 => omega
      case c5 => simp; omega
      intro v' w1 hown' hgrow _
      have HO' := hide (show w1.ownsRow w.heap.size 37 5 v' (k + 1) (flatT (ts.take (k + 1))) by rw [unhide HTK, flatT_snoc]; exact hown')
      have HB' := hide (((unhide HB).alloc hws _).grown hgrow (by simp; omega) (fun j hj => (World.ownsRow.lt (unhide HO) j hj).1))
      clear hown' hgrow
      go_wp2
      go_roundw
      case rel => exact ⟨k + 1, by omega, by go_num, HO', HB'⟩
      case measure => simp [intOf]; omega
    · have hkl : k = n := by omega
      have HK := hide hkl
      clear hkl
      go_wp2
      go_ret
      refine ⟨_, rfl, ?_, unhide HB⟩
      have := unhide HO
      rw [unhide HK, unhide HN, List.take_length] at this
      exact this

end Go.Proofs.YtlmpdfeidjnmnaaDoor

/- The lexer's tokens; 'add'.; The tokens for the caller: the lexer's 'found'.; What 'Lex' answers, on lists. -/
import Derived.Test.YtojjfdobilkknaaGreatDoorM04
set_option maxRecDepth 20000
set_option maxHeartbeats 4000000
namespace Go.Proofs.YtojjfdobilkknaaGreatDoor
open Go.RowKit
structure Tok where
 kind : Int
 text : ByteArray
 pos : Int
 body : ByteArray
 raw : Bool
def Tok.cells (t : Tok) : Array Value := #[.int .i64 t.kind, .string t.text, .int .i64 t.pos, .string t.body, .bool t.raw]
def ptrs (ps : List Nat) : List Value := ps.map (fun p => Value.pointer (some ⟨p, 0, none⟩))
structure Toks (w : World) (base : Nat) (v : Value) (ps : List Nat) (ts : List Tok) : Prop where
 row : w.ownsRow base 75 1 v ps.length (ptrs ps)
 len : ps.length = ts.length
 blk : ∀ (i p : Nat) (t : Tok), ps[i]? = some p → ts[i]? = some t → base ≤ p ∧ Blk w p 74 t.cells
 inc : ps.Pairwise (fun a b => a < b)
theorem Toks.at {w : World} {base : Nat} {v : Value} {ps : List Nat} {ts : List Tok} (h : Toks w base v ps ts) {p : Nat} (hp : p ∈ ps) : base ≤ p ∧ ∃ t, Blk w p 74 (Tok.cells t) := by
 obtain ⟨i, hi, rfl⟩ := List.getElem_of_mem hp
 have hi2 : i < ts.length := by rw [← h.len]; exact hi
 obtain ⟨h1, h2⟩ := h.blk i ps[i] ts[i] (List.getElem?_eq_getElem hi) (List.getElem?_eq_getElem hi2)
 exact ⟨h1, _, h2⟩
theorem toks_nil (w : World) (base : Nat) : Toks w base (.slice none 0 0) [] [] :=
 ⟨World.ownsRow_nil _ _ _ _, rfl, fun i p t h => by simp at h, List.Pairwise.nil⟩
theorem und_toks : Tryz.prog.underlying 68 = some (.slice 75) := by kernel_rfl
theorem info_tokp : (Tryz.prog.info? 75).map (fun i => (i.zero, i.size, i.bytes)) = some (some (.pointer none), 1, 8) := by kernel_rfl
theorem Rdr.grownS {w w1 : World} {b : Nat} {t : TypeId} {tl : List Value} {s : ByteArray} {p d : Nat} {f bl : Int} {S : Nat → Prop} (h : Rdr w b t tl s p d f bl) (hg : GrownS w w1 S) (hb : ¬ S b) : Rdr w1 b t tl s p d f bl := ⟨h.blk.grownS hg hb, h.le, h.len, h.dle⟩
theorem Rdr.toks {w : World} {b : Nat} {t : TypeId} {v u : Value} {s : ByteArray} {p d : Nat} {f bl : Int} (h : Rdr w b t [v, u] s p d f bl) (v' : Value) : Rdr (w.setCell ⟨b, 5, none⟩ v') b t [v', u] s p d f bl := by
 refine ⟨?_, h.le, h.len, h.dle⟩
 have := h.blk.set 5 v'
 rwa [List.setIfInBounds_toArray] at this
theorem Rdr.waits {w : World} {b : Nat} {t : TypeId} {v u : Value} {s : ByteArray} {p d : Nat} {f bl : Int} (h : Rdr w b t [v, u] s p d f bl) (u' : Value) : Rdr (w.setCell ⟨b, 6, none⟩ u') b t [v, u'] s p d f bl := by
 refine ⟨?_, h.le, h.len, h.dle⟩
 have := h.blk.set 6 u'
 rwa [List.setIfInBounds_toArray] at this
theorem Toks.push {w w1 : World} {b : Nat} {v v' : Value} {ps : List Nat} {ts : List Tok} {q : Nat} {t : Tok} {L : Array Value} (h : Toks w (b + 1) v ps ts) (hL : Blk w1 b 71 L) (hg : GrownS w w1 (fun k => some k = v.ownBlock)) (hq : w.heap.size ≤ q) (hbq : b < q) (hn : Blk w1 q 74 t.cells) (hrow : w1.ownsRow (b + 1) 75 1 v' (ps.length + 1) (ptrs ps ++ [.pointer (some ⟨q, 0, none⟩)])) : Toks (w1.setCell ⟨b, 5, none⟩ v') (b + 1) v' (ps ++ [q]) (ts ++ [t]) := by
 have hne : some b ≠ v'.ownBlock := own_type hrow hL (by decide)
 refine ⟨?_, ?_, ?_, ?_⟩
 ·have e : ptrs (ps ++ [q]) = ptrs ps ++ [.pointer (some ⟨q, 0, none⟩)] := by simp [ptrs]
  rw [e, List.length_append]
  exact hrow.kept (row := some b) (gsc w1 ⟨b, 5, none⟩ v') (Or.inr (fun e => hne e.symm))
 ·rw [List.length_append, List.length_append, h.len]; rfl
 ·intro i p t' hp ht'
  rcases Nat.lt_or_ge i ps.length with hi | hi
  ·rw [List.getElem?_append_left hi] at hp
   rw [List.getElem?_append_left (by rw [← h.len]; exact hi)] at ht'
   obtain ⟨h1, h2⟩ := h.blk i p t' hp ht'
   exact ⟨h1, (h2.grownS hg (own_type h.row h2 (by decide))).other (a := ⟨b, 5, none⟩) (by show p ≠ b; omega) _⟩
  ·rw [List.getElem?_append_right hi] at hp
   rw [List.getElem?_append_right (by rw [← h.len]; exact hi)] at ht'
   have h0 : i - ps.length = 0 := by
    have := (List.getElem?_eq_some_iff.1 hp).1
    simp at this
    omega
   rw [h0] at hp
   rw [← h.len, h0] at ht'
   simp at hp ht'
   subst hp ht'
   exact ⟨hbq, hn.other (a := ⟨b, 5, none⟩) (by show q ≠ b; omega) _⟩
 ·rw [List.pairwise_append]
  refine ⟨h.inc, by simp, ?_⟩
  intro x hx y hy
  simp at hy
  subst hy
  obtain ⟨_, t', h2⟩ := h.at hx
  have := h2.lt
  omega
theorem add_any (w : World) (b : Nat) (v u : Value) (s : ByteArray) (p d : Nat) (ps : List Nat) (ts : List Tok) (kind pos : Int) (text : ByteArray) (h : Rdr w b 71 [v, u] s p d 0 0) (ht : Toks w (b + 1) v ps ts) (hl : ts.length ≤ 100000) :
 Calls Tryz.prog 52 #[.pointer (some ⟨b, 0, none⟩), .int .i64 kind, .string text, .int .i64 pos] w fun e w' => e = .returned (.tuple #[]) ∧ ∃ v' q, Rdr w' b 71 [v', u] s p d 0 0 ∧ Toks w' (b + 1) v' (ps ++ [q]) (ts ++ [⟨kind, text, pos, ⟨#[]⟩, false⟩]) ∧ GrownS w w' (fun k => k = b ∨ some k = v.ownBlock) ∧ w.heap.size ≤ q := by
 obtain ⟨i0, hi, hz0, hz1, hz2⟩ := info_of info_tokp
 have c5 : w.cell? ⟨b, 5, none⟩ = some v := h.blk.cell 5 (by simp)
 have hbl := h.blk.lt
 have hpl : ps.length ≤ 100000 := by rw [ht.len]; exact hl
 have HR := hide h
 have HT := hide ht
 have hrow := ht.row
 clear h ht
 go_enter Tryz.func52, Tryz.ntmps52
 go_wp2_with (first
  | (at_builtin; refine wpList_append_own _ rfl (.tmp 12) (.tmp 18) 68 rfl (b + 1) 75 i0 (.pointer none) 1 8 und_toks hi hz0 hz1 hz2 rfl (by decide) _ _ _ rfl ((World.ownsRow.alloc (World.ownsRow.alloc hrow _) _)) ⟨w.heap.size + 1, 0, none⟩ 1 1 [.pointer (some ⟨w.heap.size, 0, none⟩)] rfl rfl ?c1 ?c2 ?c3 ?c4 ?c5 ?_)
  | go_in)
 case c1 =>
  intro j x hj
  match j, hj with
  | 0, hj => simp at hj; subst hj; rw [add_at]; go_simp
 case c2 => intro x hx; simp at hx; subst hx; rfl
 case c3 => unfold maxLen; omega
 case c4 => omega
 case c5 => simp; omega
 intro v' w1 hown' hgrow _
 have hg : GrownS w w1 (fun k => some k = v.ownBlock) := (GrownS.of (World.grownBy_alloc w _ none) (by simp)).trans ((GrownS.of (World.grownBy_alloc _ _ none) (by simp)).trans (GrownS.of hgrow (fun _ e => e)))
 have hb0 : some b ≠ v.ownBlock := own_type hrow (uh HR).blk (by decide)
 have h1 := (uh HR).grownS hg hb0
 have hn0 : Blk ((w.alloc (.cells (Tok.cells ⟨kind, text, pos, ⟨#[]⟩, false⟩) 74)).alloc (.cells #[.pointer (some ⟨w.heap.size, 0, none⟩)] 75)) w.heap.size 74 (Tok.cells ⟨kind, text, pos, ⟨#[]⟩, false⟩) := (Blk.new w _ _).alloc _
 have hn : Blk w1 w.heap.size 74 (Tok.cells ⟨kind, text, pos, ⟨#[]⟩, false⟩) := hn0.kept hgrow (own_type (World.ownsRow.alloc (World.ownsRow.alloc hrow _) _) hn0 (by decide))
 have HF := hide ((uh HT).push (v' := v') h1.blk hg (ler _) hbl hn hown')
 have HG := hide hg
 have H1 := hide h1
 have d5 : w1.cell? ⟨b, 5, none⟩ = some v := h1.blk.cell 5 (by simp)
 have z5 : w1.frozen? ⟨b, 5, none⟩ = false := h1.blk.frozen 5
 obtain ⟨ao, n', cap, rfl⟩ : ∃ ao n' cap, v' = .slice ao n' cap := by
  rcases hown'.2 with ⟨hv, _⟩ | ⟨g, cap, cur, hv, _⟩
  ·exact ⟨_, _, _, hv⟩
  ·exact ⟨_, _, _, hv⟩
 clear hn hn0 h1 hb0 hg hown' hgrow hrow
 go_wp2
 refine bodyPost_end (res0 rfl _ _) rfl ?_
 exact ⟨rfl, _, w.heap.size, (uh H1).toks _, uh HF, ((uh HG).mono (fun _ _ e => .inr e)).trans (GrownS.of (gsc w1 ⟨b, 5, none⟩ _) (fun k e => .inl (by simpa using e))), ler _⟩
def flatT (ts : List Tok) : List Value := ts.flatMap (fun t => t.cells.toList)
theorem flatT_snoc (ts : List Tok) (t : Tok) : flatT (ts ++ [t]) = flatT ts ++ [.int .i64 t.kind, .string t.text, .int .i64 t.pos, .string t.body, .bool t.raw] := by simp [flatT, Tok.cells]
theorem und_tokl : Tryz.prog.underlying 39 = some (.slice 74) := by kernel_rfl
theorem info_tok : (Tryz.prog.info? 74).map (fun i => (i.zero, i.size, i.bytes)) = some (some (.agg #[.int .i64 0, .string ⟨#[]⟩, .int .i64 0, .string ⟨#[]⟩, .bool false]), 5, 56) := by kernel_rfl
theorem five_cells {w : World} {t : TypeId} {a c d e f : Value} : ∀ j u, [a, c, d, e, f][j]? = some u → (w.alloc (.cells #[a, c, d, e, f] t)).cell? ((⟨w.heap.size, 0, none⟩ : Addr).add j) = some u := by
 intro j u hj
 rw [add_at]
 match j, hj with
 | 0, hj => simp at hj; subst hj; go_simp
 | 1, hj => simp at hj; subst hj; go_simp
 | 2, hj => simp at hj; subst hj; go_simp
 | 3, hj => simp at hj; subst hj; go_simp
 | 4, hj => simp at hj; subst hj; go_simp
theorem five_one (t : Tok) : ∀ u ∈ [Value.int .i64 t.kind, .string t.text, .int .i64 t.pos, .string t.body, .bool t.raw], u.oneCell' = true := by
 intro u hu
 simp at hu
 rcases hu with rfl | rfl | rfl | rfl | rfl <;> rfl
theorem ptr_shape {w : World} {base n : Nat} {e : TypeId} {v : Value} {ps : List Nat} (h : w.ownsRow base e 1 v n (ptrs ps)) (hn : n = ps.length) : ∃ ad cap, v = .slice ad n cap ∧ ∀ (k q : Nat), ps[k]? = some q → ∃ g, ad = some ⟨g, 0, none⟩ ∧ g < w.heap.size ∧ w.cell? ⟨g, k, none⟩ = some (.pointer (some ⟨q, 0, none⟩)) := by
 obtain ⟨h1, ⟨rfl, h0⟩ | ⟨g, cap, cur, rfl, _, hg, _, _, _, htk⟩⟩ := h
 ·refine ⟨none, 0, by rw [h0], fun k q hk => ?_⟩
  have : ps = [] := List.eq_nil_of_length_eq_zero (by omega)
  rw [this] at hk
  simp at hk
 ·refine ⟨_, cap, rfl, fun k q hk => ⟨g, rfl, (Array.getElem?_eq_some_iff.1 hg).1, ?_⟩⟩
  have hkl := (List.getElem?_eq_some_iff.1 hk).1
  have hp : (ptrs ps)[k]? = some (.pointer (some ⟨q, 0, none⟩)) := by simp [ptrs, hk]
  rw [← htk, List.getElem?_take, if_pos (by omega)] at hp
  exact Blk.cell (show Blk w g e cur from hg) k (by simpa using hp)
theorem found_any (w : World) (b : Nat) (v u : Value) (s : ByteArray) (p d : Nat) (f bl : Int) (ps : List Nat) (ts : List Tok) (h : Rdr w b 71 [v, u] s p d f bl) (ht : Toks w (b + 1) v ps ts) (hl : ts.length ≤ 100000) :
 Calls Tryz.prog 31 #[.pointer (some ⟨b, 0, none⟩)] w fun e w' => ∃ v', e = .returned v' ∧ w'.ownsRow w.heap.size 74 5 v' ts.length (flatT ts) ∧ Below w.heap.size w w' := by
 obtain ⟨i0, hi, hz0, hz1, hz2⟩ := info_of info_tok
 have c5 : w.cell? ⟨b, 5, none⟩ = some v := h.blk.cell 5 (by simp)
 obtain ⟨ad, cap, rfl, hsh⟩ := ptr_shape ht.row rfl
 have HS := hide hsh
 have HT := hide ht
 have HPL := hide ht.len
 obtain ⟨n, hn⟩ : ∃ n, n = ps.length := ⟨_, rfl⟩
 rw [← hn] at c5
 have HN := hide (show n = ts.length by rw [hn]; exact ht.len)
 have hn1 : n ≤ 100000 := by rw [hn, ht.len]; exact hl
 clear h ht hsh hn hl
 go_enter Tryz.func31, Tryz.ntmps31
 go_wp2_with fail
 go_loopw [3, 11] (fun ov i wr => ∃ k : Nat, k ≤ n ∧ i = .int .i64 k ∧ Hid (wr.ownsRow w.heap.size 74 5 ov k (flatT (ts.take k))) ∧ Hid (Below w.heap.size w wr)) (fun _ i _ => n - (intOf i).toNat)
 case atStart => exact ⟨0, by omega, rfl, hide (World.ownsRow_nil _ _ _ _), hide (Below.refl _ _)⟩
 case round =>
  obtain ⟨k, hk, rfl, HO, HB⟩ := hrel
  by_cases hlt : k < n
  ·have hk1 : k < ts.length := by have := uh HN; omega
   have hk2 : k < ps.length := by have := uh HPL; omega
   obtain ⟨q, hq⟩ : ∃ q, ps[k]? = some q := ⟨_, List.getElem?_eq_getElem hk2⟩
   obtain ⟨t, htt⟩ : ∃ t, ts[k]? = some t := ⟨_, List.getElem?_eq_getElem hk1⟩
   obtain ⟨g, rfl, hg, hcell⟩ := uh HS k q hq
   obtain ⟨_, hb⟩ := (uh HT).blk k q t hq htt
   have hp1 := ((uh HB).cell (p := ⟨g, k, none⟩) hg).trans hcell
   have hb' := hb.below (uh HB) hb.lt
   have q0 : wr.cell? ⟨q, 0, none⟩ = some (.int .i64 t.kind) := hb'.cell 0 rfl
   have q1 : wr.cell? ⟨q, 1, none⟩ = some (.string t.text) := hb'.cell 1 rfl
   have q2 : wr.cell? ⟨q, 2, none⟩ = some (.int .i64 t.pos) := hb'.cell 2 rfl
   have q3 : wr.cell? ⟨q, 3, none⟩ = some (.string t.body) := hb'.cell 3 rfl
   have q4 : wr.cell? ⟨q, 4, none⟩ = some (.bool t.raw) := hb'.cell 4 rfl
   have HTK : Hid (ts.take (k + 1) = ts.take k ++ [t]) := hide (by rw [List.take_add_one, htt]; rfl)
   have hws := (uh HB).size
   have hlt' : (k : Int) < (n : Int) := by omega
   have hk0 : (0 : Int) ≤ (k : Int) := by omega
   clear hk1 hk2 hq htt hg hcell hb hb'
   go_wp2_with (first
    | (at_builtin; refine wpList_append_own _ rfl (.tmp 15) (.tmp 19) 39 rfl w.heap.size 74 i0 _ 5 56 und_tokl hi hz0 hz1 hz2 rfl (by decide) _ _ _ rfl (World.ownsRow.alloc (uh HO) _) ⟨wr.heap.size, 0, none⟩ 1 1 [.int .i64 t.kind, .string t.text, .int .i64 t.pos, .string t.body, .bool t.raw] rfl rfl five_cells (five_one t) ?c3 ?c4 ?c5 ?_)
    | go_in)
   case c3 => unfold maxLen; omega
   case c4 => omega
   case c5 => simp; omega
   intro v' w1 hown' hgrow _
   have HO' := hide (show w1.ownsRow w.heap.size 74 5 v' (k + 1) (flatT (ts.take (k + 1))) by rw [uh HTK, flatT_snoc]; exact hown')
   have HB' := hide (((uh HB).alloc hws _).grown hgrow (by simp; omega) (fun j hj => (World.ownsRow.lt (uh HO) j hj).1))
   clear hown' hgrow
   go_wp2
   go_roundw
   case rel => exact ⟨k + 1, by omega, by go_num, HO', HB'⟩
   case measure => simp [intOf]; omega
  ·have hkl : k = n := by omega
   have HK := hide hkl
   clear hkl
   go_wp2
   go_ret
   refine ⟨_, rfl, ?_, uh HB⟩
   have := uh HO
   rw [uh HK, uh HN, List.take_length] at this
   exact this
def takeL : Nat → Bool → List UInt8 → List UInt8 → List UInt8 → Option (List UInt8 × List UInt8)
 | 0, _, _, _, _ => none
 | _ + 1, _, _, [], _ => none
 | f + 1, tabs, en, c :: r, acc =>
   let ln := (c :: r).takeWhile (fun x => x != 10)
   let ln := if tabs then Lib.trimLeftB ln 9 else ln
   let rest := ((c :: r).dropWhile (fun x => x != 10)).drop 1
   if ln = en then some (acc, rest) else takeL f tabs en rest (acc ++ ln ++ [10])
def wordL : Nat → List UInt8 → Rs
 | 0, l => .ok l
 | _ + 1, [] => .ok []
 | f + 1, c :: r => if metB (c.toNat : Int) then .ok (c :: r) else match thg (3 * (r.length + 1) + 3) (c :: r) 0 0 with
   | .err e m => .err e m
   | .ok l => wordL f l
structure Wt where
 tok : Nat
 en : List UInt8
 tabs : Bool
structure LS where
 rest : List UInt8
 toks : List Tok
 wait : List Wt
 flt : Int
 blm : Int
def LS.fail (st : LS) (e x : Int) : LS := if st.flt = 0 then { st with flt := e, blm := x } else st
def LS.add (st : LS) (kind : Int) (text : List UInt8) (pos : Int) : LS := { st with toks := st.toks ++ [⟨kind, BA text, pos, ⟨#[]⟩, false⟩] }
def LS.posOf (st : LS) (i : Nat) : Int := (st.toks[i]?.map Tok.pos).getD 0
def takeUpL (st : LS) (x : Wt) : LS :=
 if st.flt = 0 then match takeL (st.rest.length + 1) x.tabs x.en st.rest [] with
  | some (body, rest) => { st with rest := rest, toks := st.toks.modify x.tok (fun t => { t with body := BA body }) }
  | none => ({ st with rest := [] } : LS).fail 12 (st.posOf x.tok)
 else st
def newlineL (st : LS) (pos : Int) : LS :=
 let st := st.wait.foldl takeUpL st
 if st.flt = 0 then ({ st with wait := [] } : LS).add 3 [10] pos else st
def awaitL (st : LS) (word : List UInt8) : LS :=
 match st.toks.getLast? with
 | none => st
 | some t => if t.text = BA [60, 60] ∨ t.text = BA [60, 60, 45] then
  { st with toks := st.toks.modify (st.toks.length - 1) (fun t => { t with raw := word.any (fun c => c == 92 || c == 39 || c == 34) }), wait := st.wait ++ [⟨st.toks.length - 1, endL word, t.text == BA [60, 60, 45]⟩] }
  else st
def wordTok (n : Nat) (st : LS) : LS :=
 let pos : Int := ((n - st.rest.length : Nat) : Int)
 match wordL (st.rest.length + 1) st.rest with
 | .err e m => { st with flt := e, blm := ((n - m.length : Nat) : Int) }
 | .ok r =>
   let word := st.rest.take (st.rest.length - r.length)
   if digsB word && (r.head? == some 60 || r.head? == some 62) then ({ st with rest := r } : LS).add 4 word pos
   else (awaitL { st with rest := r } word).add 1 word pos
def tokenL (n : Nat) (st : LS) : LS :=
 match st.rest with
 | [] => st
 | c :: r =>
   let pos : Int := ((n - (r.length + 1) : Nat) : Int)
   if c = 10 then newlineL { st with rest := r } pos
   else if opL (c :: r) = [] then wordTok n st
   else ({ st with rest := (c :: r).drop (opL (c :: r)).length } : LS).add 2 (opL (c :: r)) pos
def loopL (n : Nat) : Nat → LS → LS
 | 0, st => st
 | f + 1, st =>
   if st.flt = 0 then
    let st := { st with rest := skL (st.rest.length + 1) st.rest }
    if st.rest = [] then st else loopL n f (tokenL n st)
   else st
def lexL (l : List UInt8) : List Tok × Int × Int :=
 if 4096 < l.length then ([], 0, 3) else
  let st := loopL l.length (l.length + 1) ⟨l, [], [], 0, 0⟩
  let st := match st.wait with
   | [] => st
   | x :: _ => st.fail 12 (st.posOf x.tok)
  (st.toks, st.blm, st.flt)
end Go.Proofs.YtojjfdobilkknaaGreatDoor

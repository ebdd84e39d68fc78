/-
  What is known of names while an expression is worked out: a name's number.
-/
import Derived.Test.YtlbpeknncakfeaaGreatDoorFind
namespace Go.Proofs.YtlbpeknncakfeaaGreatDoor
open Go.RowKit Go.Maps

/-- The numbers of names, and what has been set. -/
structure St where
  D : DataW Unit
  sets : List (List UInt8 × List UInt8)
def flatP (l : List (List UInt8 × List UInt8)) : List Value := l.flatMap fun p => [.string (BA p.1), .string (BA p.2)]
theorem flatP_len : ∀ l, (flatP l).length = l.length * 2
  | [] => rfl
  | p :: l => by
    have := flatP_len l
    unfold flatP at this ⊢
    rw [List.flatMap_cons, List.length_append, this]
    simp
    omega
theorem flatP_snoc (l : List (List UInt8 × List UInt8)) (p : List UInt8 × List UInt8) : flatP (l ++ [p]) = flatP l ++ [.string (BA p.1), .string (BA p.2)] := by simp [flatP]

theorem Env.of_blocks {w w' : World} {m : Nat} (h : Env w) (hb : Below m w w') (hm : 4 < m) : Env w' := by
  obtain ⟨⟨⟨v, h1, h2⟩, ⟨u, h3, h4⟩⟩, ht⟩ := h
  have e : ∀ b, b ≤ 4 → w'.heap[b]? = w.heap[b]? := fun b hbm => hb.block b (by omega)
  refine ⟨⟨⟨v, ?_, h2⟩, ⟨u, ?_, h4⟩⟩, ?_⟩
  · rw [← h1]; unfold World.cell?; simp only [e 2 (by omega)]
  · rw [← h3]; unfold World.cell?; simp only [e 3 (by omega)]
  · unfold Lib.TabIs World.var? at ht ⊢
    rw [show Tryz.prog.globalNamed "internal/strconv.uint64pow10" = some 4 by kernel_rfl] at ht ⊢
    simp only [Option.bind_some] at ht ⊢
    rw [e 4 (by omega)]
    exact ht
theorem Env.size {w : World} (h : Env w) : 4 < w.heap.size := by
  have ht := h.tab
  unfold Lib.TabIs World.var? at ht
  rw [show Tryz.prog.globalNamed "internal/strconv.uint64pow10" = some 4 by kernel_rfl] at ht
  simp only [Option.bind_some] at ht
  rcases Nat.lt_or_ge 4 w.heap.size with h' | h'
  · exact h'
  · rw [Array.getElem?_eq_none h'] at ht; cases ht
theorem ownsRow_below {W W' : World} {base size n : Nat} {e : TypeId} {v : Value} {xs : List Value} (h : W.ownsRow base e size v n xs) (hb : Below W.heap.size W W') : W'.ownsRow base e size v n xs := by
  obtain ⟨h1, h2 | ⟨g, cap, cur, hv, hg, hc, hr⟩⟩ := h
  · exact ⟨h1, .inl h2⟩
  · exact ⟨h1, .inr ⟨g, cap, cur, hv, hg, (hb.block g (Array.getElem?_eq_some_iff.1 hc).1).trans hc, hr⟩⟩
theorem ownsRow_lt {W : World} {base size n : Nat} {e : TypeId} {v : Value} {xs : List Value} (h : W.ownsRow base e size v n xs) {k : Nat} (hk : v.ownBlock = some k) : base ≤ k ∧ k < W.heap.size := by
  obtain ⟨_, ⟨rfl, _⟩ | ⟨g, cap, cur, rfl, hb, hc, _⟩⟩ := h
  · cases hk
  · simp [Value.ownBlock] at hk
    subst hk
    exact ⟨hb, (Array.getElem?_eq_some_iff.1 hc).1⟩

/-- Block kb is the scope: the finder over the variables in block vb, the numbers in block mb, what is set in sv. -/
structure Sc (w : World) (kb mb vb : Nat) (vars : List (List UInt8 × List UInt8)) (v : Value) (N : Nat) (σ : St) (sv : Value) : Prop where
  blk : Blk w kb 62 #[.func (.func 44) #[] #[.pointer (some ⟨vb, 0, none⟩)], .map (some mb), sv]
  map : w.ownsMap Tryz.prog 9 (plainElem Tryz.prog 3) mb N σ.D
  row : w.ownsRow mb 39 2 sv σ.sets.length (flatP σ.sets)
  vblk : Blk w vb 27 #[v]
  vrow : PRow vb w v vars
  lt1 : vb < mb
  lt2 : mb < kb
  vlen : ∀ p ∈ vars, p.2.length ≤ 100000
  slen : σ.sets.length ≤ N
  envw : Env w
  five : 4 < mb

theorem kb_ne_row {w : World} {kb mb vb : Nat} {vars : List (List UInt8 × List UInt8)} {v : Value} {N : Nat} {σ : St} {sv : Value} (h : Sc w kb mb vb vars v N σ sv) : sv.ownBlock ≠ some kb := by
  intro e
  obtain ⟨_, h2 | ⟨g, cap, cur, hv, hg, hc, _⟩⟩ := h.row
  · rw [h2.1] at e; cases e
  · rw [hv] at e
    have : g = kb := by simpa [Value.ownBlock] using e
    subst this
    have := h.blk.symm.trans hc
    simp at this
theorem mb_ne_row {w : World} {kb mb vb : Nat} {vars : List (List UInt8 × List UInt8)} {v : Value} {N : Nat} {σ : St} {sv : Value} (h : Sc w kb mb vb vars v N σ sv) : sv.ownBlock ≠ some mb := by
  intro e
  obtain ⟨_, h2 | ⟨g, cap, cur, hv, hg, hc, _⟩⟩ := h.row
  · rw [h2.1] at e; cases e
  · rw [hv] at e
    have : g = mb := by simpa [Value.ownBlock] using e
    subst this
    obtain ⟨es, ck, hb, _⟩ := h.map
    rw [hb] at hc
    cases hc
theorem Sc.below {w w' : World} {kb mb vb : Nat} {vars : List (List UInt8 × List UInt8)} {v : Value} {N : Nat} {σ : St} {sv : Value} (h : Sc w kb mb vb vars v N σ sv) (hb : Below w.heap.size w w') : Sc w' kb mb vb vars v N σ sv := by
  have hg := grown_of_below hb
  have l := h.lt1
  have l2 := h.lt2
  have l3 := h.blk.lt
  exact ⟨h.blk.kept hg (by simp), h.map.kept hg (by simp), ownsRow_below h.row hb, h.vblk.kept hg (by simp), h.vrow.below hb (by omega), h.lt1, h.lt2, h.vlen, h.slen, h.envw.below hb, h.five⟩

def intD : DataW Unit → Int
  | .lit (.int _ n) => n
  | _ => 0
/-- A name's number. -/
def askS (F : List UInt8 → List UInt8) (s : List UInt8) (σ : St) : Except Int (Int × St) :=
  if Maps.has σ.D (.string s) then .ok (intD (σ.D.atKey (.string s) (.lit (.int .i64 0))), σ)
  else match valS (BA (F s)) with
    | none => .error 10
    | some n => .ok (n, ⟨σ.D.put (.string s) (.lit (.int .i64 n)), σ.sets⟩)

/-- What working out answers. -/
def EvEnd (w : World) (kb mb vb : Nat) (vars : List (List UInt8 × List UInt8)) (v : Value) (N : Nat) (r : Except Int (Int × St)) (e : Ending) (w' : World) : Prop :=
  Below mb w w' ∧ match r with
    | .ok (n, σ) => e = .returned (.tuple #[.int .i64 n, .int .i64 0]) ∧ I64 n ∧ ∃ sv, Sc w' kb mb vb vars v N σ sv
    | .error c => e = .returned (.tuple #[.int .i64 0, .int .i64 c]) ∧ c ≠ 0

theorem zero3 (w : World) : (zeroValue 3).run Tryz.prog w = .ok (.int .i64 0) w := by kernel_rfl
theorem valS_i64 {s : ByteArray} {n : Int} (h : valS s = some n) : I64 n := by
  unfold valS at h
  split at h
  · cases h; exact ⟨by decide, by decide⟩
  · split at h
    · rcases hr : atMost 9223372036854775808 (numW (cutP 45 (trimT s))) with _ | m
      · rw [hr] at h; cases h
      · rw [hr] at h
        obtain ⟨h1, h2⟩ := atMost_some hr
        have h3 := numW_nonneg h1
        have h4 : -m = n := by simpa using h
        exact ⟨by omega, by omega⟩
    · obtain ⟨h1, h2⟩ := atMost_some h
      have h3 := numW_nonneg h1
      exact ⟨by omega, by omega⟩
theorem findV_len {vars : List (List UInt8 × List UInt8)} (h : ∀ p ∈ vars, p.2.length ≤ 100000) (s : List UInt8) : (findV vars s).length ≤ 100000 := by
  induction vars with
  | nil => simp [findV]
  | cons p l ih =>
    unfold findV
    split
    · exact h p (by simp)
    · exact ih (fun q hq => h q (List.mem_cons_of_mem _ hq))

set_option maxRecDepth 20000 in
set_option maxHeartbeats 4000000 in
theorem number_of (kb mb vb : Nat) (vars : List (List UInt8 × List UInt8)) (v : Value) (M : Nat) (σ : St) (sv : Value) (s : List UInt8) (w : World) (h : Sc w kb mb vb vars v M σ sv) (hs : s.length ≤ 100000) (hM : M ≤ 100000) :
    Calls Tryz.prog 116 #[.pointer (some ⟨kb, 0, none⟩), .string (BA s)] w fun e w' => EvEnd w kb mb vb vars v (M + 1) (askS (findV vars) s σ) e w' := by
  have hkey := hk_str (BA s) (by rw [BA_size]; unfold maxLen; omega)
  have c1 : w.cell? ⟨kb, 1, none⟩ = some (.map (some mb)) := h.blk.cell 1 rfl
  have c0 : w.cell? ⟨kb, 0, none⟩ = some (.func (.func 44) #[] #[.pointer (some ⟨vb, 0, none⟩)]) := h.blk.cell 0 rfl
  obtain ⟨x, ps, hrun, hv⟩ := h.map.look_ok strKeyed Tryz.underlying60 (zero3 w) (zd := .lit (.int .i64 0)) (zp := []) (plainElem_int Tryz.underlying3 (by decide)) hkey
  obtain ⟨c, rfl, hz, hwf⟩ := plainElem_int_inv Tryz.underlying3 hv
  have hat : σ.D.atKey (.string s) (.lit (.int .i64 0)) = .lit (.int .i64 c) := congrArg Prod.fst hz
  rw [BA_list] at hrun
  have H := hide h
  have HK := hide hkey
  rcases Bool.eq_false_or_eq_true (Maps.has σ.D (.string s)) with hh | hh
  · rw [hh] at hrun
    have HA : Hid (askS (findV vars) s σ = .ok (c, σ)) := hide (by unfold askS; rw [hh, if_pos rfl, hat]; rfl)
    clear h hkey hv hz hat hh
    go_enter Tryz.func116, Tryz.ntmps116
    go_wp2
    go_ret2
    refine ⟨Below.refl _ _, ?_⟩
    rw [unhide HA]
    have h := unhide H
    exact ⟨rfl, i64_of_wf hwf, sv, h.blk, h.map.mono (by omega), h.row, h.vblk, h.vrow, h.lt1, h.lt2, h.vlen, by have := h.slen; omega, h.envw, h.five⟩
  · rw [hh] at hrun
    have HA : Hid (askS (findV vars) s σ = match valS (BA (findV vars s)) with | none => .error 10 | some n => .ok (n, ⟨σ.D.put (.string s) (.lit (.int .i64 n)), σ.sets⟩)) := hide (by unfold askS; rw [hh, if_neg (by simp)])
    clear h hkey hv hz hat hh
    have hfl : (BA (findV vars s)).size ≤ 100000 := findV_len (unhide H).vlen s
    have hsz := (unhide H).blk.lt
    have hl1 := (unhide H).lt1
    have hl2 := (unhide H).lt2
    go_enter Tryz.func116, Tryz.ntmps116
    go_wp2_with fail
    refine (find_any vb vb v vars s w (unhide H).vblk (unhide H).vrow (by omega)).mono ?_
    rintro e w1 ⟨rfl, bb1⟩
    have h1 := (unhide H).below bb1
    have HB1 := hide bb1
    have H1 := hide h1
    clear h1 bb1
    go_wp2_with fail
    have hval := value_any (BA (findV vars s)) w1 hfl (unhide H1).envw.glob
    rcases hq : valS (BA (findV vars s)) with _ | n
    · rw [hq] at hval
      have HV := hide hval
      have HA2 : Hid (askS (findV vars) s σ = .error 10) := hide (by rw [unhide HA, hq])
      clear hval hq
      refine (unhide HV).mono ?_
      rintro e w2 ⟨he, bb2⟩
      have he2 : e = .returned (.tuple #[.int .i64 0, .int .i64 10]) := he
      subst he2
      clear he
      have HB2 := hide bb2
      clear bb2
      go_wp2
      go_ret2
      refine ⟨((unhide HB1).trans ((unhide HB2).mono (unhide HB1).size)).mono (by omega), ?_⟩
      rw [unhide HA2]
      exact ⟨rfl, by decide⟩
    · rw [hq] at hval
      have HV := hide hval
      have HA2 : Hid (askS (findV vars) s σ = .ok (n, ⟨σ.D.put (.string s) (.lit (.int .i64 n)), σ.sets⟩)) := hide (by rw [unhide HA, hq])
      have hn := valS_i64 hq
      have HN := hide hn
      clear hval hq
      refine (unhide HV).mono ?_
      rintro e w2 ⟨he, bb2⟩
      have he2 : e = .returned (.tuple #[.int .i64 n, .int .i64 0]) := he
      subst he2
      clear he
      have h2 := (unhide H1).below bb2
      have e1 : w2.cell? ⟨kb, 1, none⟩ = some (.map (some mb)) := h2.blk.cell 1 rfl
      obtain ⟨w3, hst, hown3, hturn⟩ := h2.map.store strKeyed Tryz.underlying60 (by unfold maxLen; omega) (unhide HK) (plainElem_int Tryz.underlying3 hn.wf)
      have HB2 := hide bb2
      have H2 := hide h2
      have HO3 := hide hown3
      have HT := hide hturn
      clear h2 bb2 hown3 hturn hn
      go_wp2
      go_ret2
      have h2 := unhide H2
      have g3 := (unhide HT).grown
      have b12 : Below mb w w2 := ((unhide HB1).trans ((unhide HB2).mono (unhide HB1).size)).mono (by omega)
      have b3 : Below mb w2 w3 := ⟨g3.os, g3.tape, g3.output, g3.size, fun i hi => g3.block i (by have := h2.blk.lt; omega) (by simp; omega)⟩
      refine ⟨b12.trans b3, ?_⟩
      rw [unhide HA2]
      exact ⟨rfl, unhide HN, sv, h2.blk.kept g3 (by simp; omega), unhide HO3, h2.row.kept g3 (.inr (mb_ne_row h2)), h2.vblk.kept g3 (by simp; omega), h2.vrow.below b3 (by omega), hl1, hl2, h2.vlen, by have := h2.slen; show σ.sets.length ≤ M + 1; omega, h2.envw.of_blocks b3 h2.five, h2.five⟩

/-- What an operator makes of two numbers, or that it divides by 0. -/
def applyS (o : Opr) (a b : Int) : Except Int Int := if o.div && b == 0 then .error 13 else .ok (doI o.fn a b)
def ApEnd (r : Except Int Int) (e : Ending) : Prop := match r with
  | .ok n => e = .returned (.tuple #[.int .i64 n, .int .i64 0])
  | .error c => e = .returned (.tuple #[.int .i64 0, .int .i64 c])

set_option maxRecDepth 20000 in
set_option maxHeartbeats 4000000 in
theorem apply_any (o : Opr) (ho : OprOk o) (a b : Int) (w : World) :
    Calls Tryz.prog 117 #[.agg o.cells, .int .i64 a, .int .i64 b] w fun e w' => ApEnd (applyS o a b) e ∧ Below w.heap.size w w' := by
  have hdo := do_any o ho a b
  have hcall := do_call o ho
  have hbel := (Below.refl w.heap.size w).alloc (Nat.le_refl _) (.cells o.cells 101)
  have hblk := Blk.new w 101 o.cells
  have c1 : (w.alloc (.cells o.cells 101)).cell? ⟨w.heap.size, 1, none⟩ = some (.func (.func o.fn) #[] #[]) := hblk.cell 1 rfl
  have c3 : (w.alloc (.cells o.cells 101)).cell? ⟨w.heap.size, 3, none⟩ = some (.bool o.div) := hblk.cell 3 rfl
  obtain ⟨cs, hcs⟩ : ∃ cs, cs = o.cells := ⟨_, rfl⟩
  rw [← hcs] at hbel hblk c1 c3 ⊢
  have HB := hide hbel
  clear hcs hblk hbel
  rcases Bool.eq_false_or_eq_true o.div with hd | hd
  · rcases Bool.eq_false_or_eq_true (b == 0) with hb | hb
    · have HA : Hid (applyS o a b = .error 13) := hide (by unfold applyS; rw [hd, hb]; rfl)
      rw [hd] at c3
      clear hdo hd
      go_enter Tryz.func117, Tryz.ntmps117
      go_wp2
      go_ret2
      rw [unhide HA]
      exact ⟨rfl, unhide HB⟩
    · have HA : Hid (applyS o a b = .ok (doI o.fn a b)) := hide (by unfold applyS; rw [hd, hb]; rfl)
      have HD := hide (hdo (fun _ e => by rw [e] at hb; cases hb))
      rw [hd] at c3
      clear hdo hd
      go_enter Tryz.func117, Tryz.ntmps117
      go_wp2_with fail
      refine (unhide HD _).mono ?_
      rintro e w9 ⟨rfl, hx9⟩
      have hx8 := hx9.symm
      subst hx8
      clear hx9
      go_wp2
      go_ret2
      rw [unhide HA]
      exact ⟨rfl, unhide HB⟩
  · have HA : Hid (applyS o a b = .ok (doI o.fn a b)) := hide (by unfold applyS; rw [hd]; rfl)
    have HD := hide (hdo (fun e => by rw [hd] at e; cases e))
    rw [hd] at c3
    clear hdo hd
    go_enter Tryz.func117, Tryz.ntmps117
    go_wp2_with fail
    refine (unhide HD _).mono ?_
    rintro e w9 ⟨rfl, hx9⟩
    have hx8 := hx9.symm
    subst hx8
    clear hx9
    go_wp2
    go_ret2
    rw [unhide HA]
    exact ⟨rfl, unhide HB⟩

end Go.Proofs.YtlbpeknncakfeaaGreatDoor

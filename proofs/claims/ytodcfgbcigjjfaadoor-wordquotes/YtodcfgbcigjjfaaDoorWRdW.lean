/-
  Package word's word, out of read; doubleQuotes out of word.
-/
import Derived.Test.YtodcfgbcigjjfaaDoorWShort
import Derived.Test.YtodcfgbcigjjfaaDoorSuf
namespace Go.Proofs.YtodcfgbcigjjfaaDoor
open Go.RowKit

/-- What a word comes to. -/
def WEnd (r : Rd) (w : World) (e : Ending) (w' : World) : Prop :=
  match r with
  | .ok ps => ∃ v, e = .returned (.tuple #[v, .int .i64 0]) ∧ Below w.heap.size w w' ∧ WAt w' (fun k => w.heap.size ≤ k ∧ k < w'.heap.size) v ps
  | .err x => e = .returned (.tuple #[.slice none 0 0, .int .i64 x]) ∧ x ≠ 0 ∧ Below w.heap.size w w'
def WordN (N : Nat) : Prop := ∀ (k : Nat) (l : List UInt8) (w : World), WEnv w → k < 6 → l.length ≤ N → l.length ≤ 4096 → Calls Tryd.prog 26 #[.int .i64 (k : Int), .string (BA l)] w fun e w' => WEnd (rdC true k l).word w e w'
def RdEnd (r : Rd) (w : World) (b : Nat) (X : Nat → Prop) (ps : List Prt) (e : Ending) (w' : World) : Prop :=
  match r with
  | .ok evs => e = .returned (.int .i64 0) ∧ Adds w b X (evs.foldl addP ps) w'
  | .err x => e = .returned (.int .i64 x) ∧ x ≠ 0 ∧ GrownS w w' X
def ReadN (N : Nat) : Prop := ∀ (k : Nat) (l : List UInt8) (w : World) (b : Nat) (X : Nat → Prop) (ps : List Prt), WEnv w → 3 ≤ b → k < 6 → l.length ≤ N → l.length ≤ 4096 → LSt w b X ps → Room ps (2 * l.length + 4) →
  Calls Tryd.prog 31 #[.int .i64 (k : Int), .string (BA l), (.func (Fn.func 32) #[.pointer (some ⟨b, 0, none⟩)] #[])] w fun e w' => RdEnd (rdC true k l) w b X ps e w'

theorem lst_new (w : World) : LSt (w.alloc (.cells #[.slice none 0 0, .slice none 0 0] 55)) w.heap.size (fun k => k = w.heap.size) [] :=
  ⟨[], [], .slice none 0 0, .slice none 0 0, ⟨Blk.new w _ _, World.ownsRow_nil _ _ _ _, ownB_nil _ _, by simp, rfl, by simp [Value.ownBlock], by simp [Value.ownBlock], fun k e => by omega, fun k e => by simp; omega⟩, rfl, fun _ => rfl⟩
/-- The settled list's parts, as a word. -/
theorem LSg.wat {w : World} {b : Nat} {X : Nat → Prop} {L : List (Prt × Value)} {bs : List UInt8} {pv bv : Value} (h : LSg w b X L bs pv bv) (hl : L.length ≤ 100000) : WAt w (fun k => b ≤ k ∧ k < w.heap.size) pv (L.map Prod.fst) := by
  obtain ⟨ad, cap, hv, hsh⟩ := h.pshape
  refine ⟨ad, cap, by rw [hv, List.length_map], by rw [List.length_map]; omega, ?_⟩
  by_cases hL : L = []
  · exact .inl (by rw [hL]; rfl)
  · have hpos := List.length_pos_iff.2 hL
    obtain ⟨g, hg, hgl, _, hbg, _⟩ := hsh 0 L[0] (List.getElem?_eq_getElem hpos)
    refine .inr ⟨g, 0, hg, ⟨by omega, hgl⟩, PsAt.of (fun i p hi => ?_)⟩
    rw [List.getElem?_map, Option.map_eq_some_iff] at hi
    obtain ⟨x, hx, rfl⟩ := hi
    obtain ⟨g', hg', _, _, _, _, hc⟩ := hsh i x hx
    have : g' = g := by rw [hg] at hg'; simpa using hg'.symm
    subst this
    obtain ⟨⟨k, t, q, o, c, s⟩, u⟩ := x
    rw [Nat.zero_add]
    refine (PAt_mk ..).2 ⟨hc 0 _ rfl (by decide), hc 1 _ rfl (by decide), hc 2 _ rfl (by decide), hc 3 _ rfl (by decide), hc 4 _ rfl (by decide), u, hc 5 _ rfl (by decide), ?_⟩
    exact (h.sub _ (List.mem_of_getElem? hx)).kept (fun _ _ => rfl) (fun k hk => ⟨by have := hk.1; omega, hk.2.1⟩)
theorem wend_ok {ps : List Prt} {w : World} {e : Ending} {w' : World} {v : Value} (h1 : e = .returned (.tuple #[v, .int .i64 0])) (h2 : Below w.heap.size w w') (h3 : WAt w' (fun k => w.heap.size ≤ k ∧ k < w'.heap.size) v ps) : WEnd (.ok ps) w e w' := ⟨v, h1, h2, h3⟩
theorem wend_err {x : Int} {w : World} {e : Ending} {w' : World} (h1 : e = .returned (.tuple #[.slice none 0 0, .int .i64 x])) (h2 : x ≠ 0) (h3 : Below w.heap.size w w') : WEnd (.err x) w e w' := ⟨h1, h2, h3⟩

set_option maxRecDepth 20000 in
set_option maxHeartbeats 4000000 in
theorem word_step {N : Nat} (hR : ReadN N) : WordN N := by
  intro k l w he hk hN hl
  have h2 := he.two
  have hb0 : Below w.heap.size w (w.alloc (.cells #[.slice none 0 0, .slice none 0 0] 55)) := (Below.refl _ w).alloc (Nat.le_refl _) _
  have HR := hide (hR k l (w.alloc (.cells #[.slice none 0 0, .slice none 0 0] 55)) w.heap.size _ [] (he.below (hb0.mono (by omega))) (by omega) hk hN hl (lst_new w) ⟨by simp; omega, by simp [tlen]; omega⟩)
  have hfew := rdC_few true _ k l (Nat.le_refl _)
  clear he hR hN hk
  obtain ⟨R, hRd⟩ : ∃ R, R = rdC true k l := ⟨_, rfl⟩
  rw [← hRd] at HR hfew ⊢
  clear hRd
  cases R with
  | err x =>
    have HR' : Hid (Calls Tryd.prog 31 _ _ fun e w' => e = .returned (.int .i64 x) ∧ x ≠ 0 ∧ GrownS _ w' _) := HR
    clear HR
    go_enter Tryd.func26, Tryd.ntmps26
    go_wp2_with fail
    refine (unhide HR').mono ?_
    rintro e w1 ⟨rfl, hx, g1⟩
    have hx1 : (x != 0) = true := by simpa using hx
    have HB := hide (hb0.trans ((g1.below (n := w.heap.size) (by simp) (fun k e => by omega))))
    have HX := hide hx
    clear g1 hx
    go_wp2
    go_ret2
    exact wend_err rfl (unhide HX) (unhide HB)
  | ok evs =>
    have HR' : Hid (Calls Tryd.prog 31 _ _ fun e w' => e = .returned (.int .i64 0) ∧ Adds _ _ _ (evs.foldl addP []) w') := HR
    clear HR
    have hf := (few_word (r := .ok evs) hfew)
    have hf1 : (evs.foldl addP []).length ≤ l.length := hf.1
    go_enter Tryd.func26, Tryd.ntmps26
    go_wp2_with fail
    refine (unhide HR').mono ?_
    rintro e w1 ⟨rfl, X1, ⟨L, bs, pv, bv, hL, hps, hbs⟩, g1, hx1⟩
    have HB := hide (hb0.trans ((g1.below (n := w.heap.size) (by simp) (fun k e => by omega))))
    have hLl : L.length ≤ 100000 := by rw [← setL_len L bs, ← List.length_map (f := Prod.fst), hps]; omega
    have HS := hide (settle_any w1 w.heap.size X1 L bs pv bv hL hLl)
    have HPS := hide hps
    have HX1 := hide (fun k h => hL.lo k h)
    clear hL hps hbs g1 hx1 HR'
    go_wp2_with fail
    refine (unhide HS).mono ?_
    rintro e w2 ⟨rfl, h3, g3⟩
    have c0 : w2.cell? ⟨w.heap.size, 0, none⟩ = some pv := h3.blk.cell 0 rfl
    obtain ⟨ad, cap, hpv, _⟩ := h3.pshape
    have HW := hide (h3.wat (by rw [setL_len]; exact hLl))
    rw [unhide HPS] at HW
    have HB2 := hide ((unhide HB).trans ((g3.below (n := w.heap.size) (unhide HB).size (fun k e => unhide HX1 k e))))
    clear h3 g3 HS HPS HB
    subst hpv
    go_wp2
    go_ret2
    exact wend_ok rfl (unhide HB2) (unhide HW)

/-- What is added: evs; or an error. -/
def DqEnd (r : Rd) (w : World) (b : Nat) (X : Nat → Prop) (ps : List Prt) (e : Ending) (w' : World) : Prop :=
  match r with
  | .ok qs => e = .returned (.int .i64 0) ∧ Adds w b X ((if qs.isEmpty then [litP [] true] else qs).foldl addP ps) w'
  | .err x => e = .returned (.int .i64 x) ∧ x ≠ 0 ∧ GrownS w w' X
theorem fold_take {qs ps : List Prt} {i : Nat} {p : Prt} (h : qs[i]? = some p) : (qs.take (i + 1)).foldl addP ps = addP ((qs.take i).foldl addP ps) p := by
  obtain ⟨h1, h2⟩ := List.getElem?_eq_some_iff.1 h
  rw [List.take_succ_eq_append_getElem h1, List.foldl_append, h2]
  rfl
theorem take_few {qs : List Prt} {n : Nat} (h : Few n qs) (i : Nat) : Few n (qs.take i) := by
  refine ⟨Nat.le_trans (List.length_take_le' _ _) h.1, ?_⟩
  have := tlen_app (qs.take i) (qs.drop i)
  rw [List.take_append_drop] at this
  have := h.2
  omega
theorem mem_tlen : ∀ {qs : List Prt} {p : Prt}, p ∈ qs → p.text.length ≤ tlen qs
  | q :: qs, p, h => by
    have e : tlen (q :: qs) = q.text.length + tlen qs := by simp [tlen]
    rcases List.mem_cons.1 h with rfl | h
    · omega
    · have := mem_tlen h; omega

set_option maxRecDepth 20000 in
set_option maxHeartbeats 4000000 in
theorem dquotes_any {N : Nat} (hW : WordN N) (l : List UInt8) (w : World) (b : Nat) (X : Nat → Prop) (ps : List Prt) (he : WEnv w) (hN : l.length ≤ N) (hl : l.length ≤ 4096) (h : LSt w b X ps) (hr : Room ps (2 * l.length + 2)) :
    Calls Tryd.prog 55 #[.string (BA l), (.func (Fn.func 32) #[.pointer (some ⟨b, 0, none⟩)] #[])] w fun e w' => DqEnd (rdC true 2 l).word w b X ps e w' := by
  have HW := hide (hW 2 l w he (by decide) hN hl)
  have hfew := few_word (rdC_few true _ 2 l (Nat.le_refl _))
  obtain ⟨R, hR⟩ : ∃ R, R = (rdC true 2 l).word := ⟨_, rfl⟩
  rw [← hR] at HW hfew ⊢
  clear hR hW he hN
  cases R with
  | err x =>
    have HW' : Hid (Calls Tryd.prog 26 _ _ fun e w' => e = .returned (.tuple #[.slice none 0 0, .int .i64 x]) ∧ x ≠ 0 ∧ Below w.heap.size w w') := HW
    clear HW
    go_enter Tryd.func55, Tryd.ntmps55
    go_wp2_with fail
    refine (unhide HW').mono ?_
    rintro e w1 ⟨rfl, hx, b1⟩
    have hx1 : (x != 0) = true := by simpa using hx
    have HX := hide hx
    have HB := hide b1
    clear b1 hx
    go_wp2
    go_ret
    exact ⟨rfl, unhide HX, grownS_of_below (unhide HB)⟩
  | ok qs =>
    have HW' : Hid (Calls Tryd.prog 26 _ _ fun e w' => ∃ v, e = .returned (.tuple #[v, .int .i64 0]) ∧ Below w.heap.size w w' ∧ WAt w' (fun k => w.heap.size ≤ k ∧ k < w'.heap.size) v qs) := HW
    clear HW
    have hq : Few l.length qs := hfew
    have HL := hide h
    have HRm := hide hr
    have HQ := hide hq
    clear h hr hq hfew
    go_enter Tryd.func55, Tryd.ntmps55
    go_wp2_with fail
    refine (unhide HW').mono ?_
    rintro e w1 ⟨v, rfl, b1, hv⟩
    obtain ⟨ad, cap, rfl, hql⟩ := hv.len
    have HB := hide b1
    have HV := hide hv
    clear hv b1 HW'
    by_cases hqe : qs = []
    · subst hqe
      have hA : Hid (∀ w2, Below w1.heap.size w1 w2 → Calls Tryd.prog 32 #[.pointer (some ⟨b, 0, none⟩), .agg #[.int .i64 1, .string ⟨#[]⟩, .bool true, .int .i64 0, .bool false, .slice none 0 0]] w2 fun e w' => e = .returned (.tuple #[]) ∧ Adds w b X (addP ps (litP [] true)) w') := hide (fun w2 h2 =>
        (add_plain w2 b X ps 1 ⟨#[]⟩ true 0 false (((unhide HL).below (unhide HB)).below h2) ⟨by have := (unhide HRm).1; show _ + 0 ≤ _; omega, by have := (unhide HRm).2; show _ + 0 ≤ _; omega⟩).mono (fun e w' ⟨h1, h3⟩ => ⟨h1, h3.of_below ((unhide HB).trans (h2.mono (unhide HB).size))⟩))
      go_wp2_with fail
      refine (lit_any _ _ _).mono ?_
      rintro e w2 ⟨rfl, b2⟩
      have HB2 := hide b2
      clear b2
      go_wp2_with fail
      refine (unhide hA _ (unhide HB2)).mono ?_
      rintro e w3 ⟨rfl, a3⟩
      go_wp2_with fail
      go_loopw [25] (fun i wr => i = .int .i64 0 ∧ Hid (Adds w b X (addP ps (litP [] true)) wr)) (fun i _ => 0)
      case atStart => exact ⟨rfl, hide a3⟩
      case round =>
        obtain ⟨rfl, HA3⟩ := hrel
        go_wp2
        go_ret
        exact ⟨rfl, unhide HA3⟩
    · have hpos : 0 < qs.length := List.length_pos_iff.2 hqe
      have hne0 : ((qs.length : Int) == 0) = false := by rw [beq_eq_false_iff_ne]; omega
      have hemp : Hid ((if qs.isEmpty then [litP [] true] else qs) = qs) := hide (by cases qs with
        | nil => exact absurd rfl hqe
        | cons _ _ => rfl)
      have HST : Hid (LSt w1 b X ps) := hide ((unhide HL).below (unhide HB))
      have HXlo := hide ((unhide HL).hi)
      have hbw := (unhide HL).lt
      clear hqe
      go_wp2_with fail
      go_loopw [25] (fun i wr => ∃ k : Nat, k ≤ qs.length ∧ i = .int .i64 k ∧ Hid (∃ X', LSt wr b X' ((qs.take k).foldl addP ps) ∧ GrownS w1 wr X ∧ ∀ k, X' k → X k ∨ w1.heap.size ≤ k)) (fun i _ => qs.length - (intOf i).toNat)
      case atStart => exact ⟨0, Nat.zero_le _, rfl, hide ⟨X, unhide HST, grownS_of_below (Below.refl _ _), fun _ h => .inl h⟩⟩
      case round =>
        obtain ⟨k, hk, rfl, HI⟩ := hrel
        by_cases hlt : k < qs.length
        · obtain ⟨p, hp⟩ : ∃ p, qs[k]? = some p := ⟨qs[k], List.getElem?_eq_getElem hlt⟩
          obtain ⟨X', hS, hG, hX'⟩ := unhide HI
          have hwat : WAt wr (fun k => w.heap.size ≤ k ∧ k < w1.heap.size) (.slice ad qs.length cap) qs := (unhide HV).kept (fun k hk => hG.block k hk.2 (fun e => by have := unhide HXlo k e; omega)) (fun _ h => h)
          obtain ⟨g, o, pv, had, hg, p0, p1, p2, p3, p4, p5, hsub⟩ := hwat.part hp
          obtain ⟨va, vc, rfl, _⟩ := hsub.len
          subst had
          have hgs := hG.size
          have hgw : g < wr.heap.size := by omega
          have hin : ∀ k, (w.heap.size ≤ k ∧ k < w1.heap.size) → InW b X' wr k := fun k hk => ⟨by omega, by omega, fun e => by
            rcases hX' k e with e | e
            · have := unhide HXlo k e; omega
            · omega⟩
          have hfw := take_few (unhide HQ) k
          have hfo := fold_few (qs.take k) ps
          have hpt : p.text.length ≤ l.length := Nat.le_trans (mem_tlen (List.mem_of_getElem? hp)) (unhide HQ).2
          have HA : Hid (∀ w2, Below wr.heap.size wr w2 → Calls Tryd.prog 32 #[.pointer (some ⟨b, 0, none⟩), .agg #[.int .i64 p.kind, .string (BA p.text), .bool p.quote, .int .i64 p.op, .bool p.colon, .slice va p.sub.length vc]] w2 fun e w' => e = .returned (.tuple #[]) ∧ ∃ X2, LSt w' b X2 ((qs.take (k + 1)).foldl addP ps) ∧ GrownS w1 w' X ∧ ∀ k, X2 k → X k ∨ w1.heap.size ≤ k) := hide (fun w2 h2 => by
            refine (ladd_any w2 b X' _ ((qs.take k).foldl addP ps) _ p (hS.below h2) ⟨_, rfl, hsub.below h2 (fun k hk => (hin k hk).2.1)⟩ (fun k hk => ⟨(hin k hk).1, Nat.lt_of_lt_of_le (hin k hk).2.1 h2.size, (hin k hk).2.2⟩) ?_ ?_).mono ?_
            · have := (unhide HRm).1; have := hfw.1; omega
            · have := (unhide HRm).2; have := hfw.2; omega
            · rintro e w' ⟨rfl, a2⟩
              refine ⟨rfl, ?_⟩
              rw [fold_take hp]
              exact Adds.trans (hG.trans (grownS_of_below h2)) hX' (Adds.of_below (Below.refl _ _) a2 |> fun a => Adds.trans (grownS_of_below (Below.refl _ _)) (fun _ h => .inl h) a))
          clear hS hwat hsub hin hfw hfo hpt HI hX' hG hgs hg
          go_wp2_with fail
          refine (unhide HA _ ((Below.refl _ _).alloc (Nat.le_refl _) _)).mono ?_
          rintro e w2 ⟨rfl, a2⟩
          have HA2 := hide a2
          clear a2 hp
          go_wp2
          go_roundw
          case rel => exact ⟨k + 1, by omega, by go_num, HA2⟩
          case measure => simp [intOf]; omega
        · have HE : Hid (Adds w b X (qs.foldl addP ps) wr) := hide (by
            obtain ⟨X', hS, hG, hX'⟩ := unhide HI
            rw [List.take_of_length_le (by omega)] at hS
            exact Adds.of_below (unhide HB) ⟨X', hS, hG, hX'⟩)
          clear HI
          go_wp2
          go_ret
          refine ⟨rfl, ?_⟩
          rw [unhide hemp]
          exact unhide HE

end Go.Proofs.YtodcfgbcigjjfaaDoor

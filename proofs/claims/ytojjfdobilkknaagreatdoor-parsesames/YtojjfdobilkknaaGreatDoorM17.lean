/- Package word's word, out of read; doubleQuotes out of word.; Package word's brace and long.; Package word's long. -/
import Derived.Test.YtojjfdobilkknaaGreatDoorM16
import Derived.Test.YtojjfdobilkknaaGreatDoorM06
import Derived.Test.YtojjfdobilkknaaGreatDoorM14
import Derived.Deep.Cut
set_option maxRecDepth 20000
set_option maxHeartbeats 4000000
namespace Go.Proofs.YtojjfdobilkknaaGreatDoor
open Go.RowKit
def WEnd (r : Rd) (w : World) (e : Ending) (w' : World) : Prop :=
 match r with
 | .ok ps => ∃ v, e = .returned (.tuple #[v, .int .i64 0]) ∧ Below w.heap.size w w' ∧ WAt w' (fun k => w.heap.size ≤ k ∧ k < w'.heap.size) v ps
 | .err x => e = .returned (.tuple #[.slice none 0 0, .int .i64 x]) ∧ x ≠ 0 ∧ Below w.heap.size w w'
def WordN (N : Nat) : Prop := ∀ (k : Nat) (l : List UInt8) (w : World), WEnv w → k < 6 → l.length ≤ N → l.length ≤ 4096 → Calls Tryz.prog 121 #[.int .i64 (k : Int), .string (BA l)] w fun e w' => WEnd (rdC true k l).word w e w'
def RdEnd (r : Rd) (w : World) (b : Nat) (X : Nat → Prop) (ps : List Prt) (e : Ending) (w' : World) : Prop :=
 match r with
 | .ok evs => e = .returned (.int .i64 0) ∧ Adds w b X (evs.foldl addP ps) w'
 | .err x => e = .returned (.int .i64 x) ∧ x ≠ 0 ∧ GrownS w w' X
def ReadN (N : Nat) : Prop := ∀ (k : Nat) (l : List UInt8) (w : World) (b : Nat) (X : Nat → Prop) (ps : List Prt), WEnv w → 7 ≤ b → k < 6 → l.length ≤ N → l.length ≤ 4096 → LSt w b X ps → Room ps (2 * l.length + 4) →
 Calls Tryz.prog 137 #[.int .i64 (k : Int), .string (BA l), (.func (Fn.func 138) #[.pointer (some ⟨b, 0, none⟩)] #[])] w fun e w' => RdEnd (rdC true k l) w b X ps e w'
theorem lst_new (w : World) : LSt (w.alloc (.cells #[.slice none 0 0, .slice none 0 0] 158)) w.heap.size (fun k => k = w.heap.size) [] :=
 ⟨[], [], .slice none 0 0, .slice none 0 0, ⟨Blk.new w _ _, World.ownsRow_nil _ _ _ _, ownB_nil _ _, by simp, rfl, by simp [Value.ownBlock], by simp [Value.ownBlock], fun k e => by omega, fun k e => by simp; omega⟩, rfl, fun _ => rfl⟩
theorem LSg.wat {w : World} {b : Nat} {X : Nat → Prop} {L : List (Prt × Value)} {bs : List UInt8} {pv bv : Value} (h : LSg w b X L bs pv bv) (hl : L.length ≤ 100000) : WAt w (fun k => b ≤ k ∧ k < w.heap.size) pv (L.map Prod.fst) := by
 obtain ⟨ad, cap, hv, hsh⟩ := h.pshape
 refine ⟨ad, cap, by rw [hv, List.length_map], by rw [List.length_map]; omega, ?_⟩
 by_cases hL : L = []
 ·exact .inl (by rw [hL]; rfl)
 ·have hpos := List.length_pos_iff.2 hL
  obtain ⟨g, hg, hgl, _, hbg, _⟩ := hsh 0 L[0] (List.getElem?_eq_getElem hpos)
  refine .inr ⟨g, 0, hg, ⟨by omega, hgl⟩, PsAt.of (fun i p hi => ?_)⟩
  rw [List.getElem?_map, Option.map_eq_some_iff] at hi
  obtain ⟨x, hx, rfl⟩ := hi
  obtain ⟨g', hg', _, _, _, _, hc⟩ := hsh i x hx
  have : g' = g := by rw [hg] at hg'; simpa using hg'.symm
  subst this
  obtain ⟨⟨k, t, q, o, c, s⟩, u⟩ := x
  rw [Nat.zero_add]
  refine (PAt_mk ..).2 ⟨hc 0 _ rfl (by decide), hc 1 _ rfl (by decide), hc 2 _ rfl (by decide), hc 3 _ rfl (by decide), hc 4 _ rfl (by decide), u, hc 5 _ rfl (by decide), ?_⟩
  exact (h.sub _ (List.mem_of_getElem? hx)).kept (fun _ _ => rfl) (fun k hk => ⟨by have := hk.1; omega, hk.2.1⟩)
theorem wend_ok {ps : List Prt} {w : World} {e : Ending} {w' : World} {v : Value} (h1 : e = .returned (.tuple #[v, .int .i64 0])) (h2 : Below w.heap.size w w') (h3 : WAt w' (fun k => w.heap.size ≤ k ∧ k < w'.heap.size) v ps) : WEnd (.ok ps) w e w' := ⟨v, h1, h2, h3⟩
theorem wend_err {x : Int} {w : World} {e : Ending} {w' : World} (h1 : e = .returned (.tuple #[.slice none 0 0, .int .i64 x])) (h2 : x ≠ 0) (h3 : Below w.heap.size w w') : WEnd (.err x) w e w' := ⟨h1, h2, h3⟩
theorem word_step {N : Nat} (hR : ReadN N) : WordN N := by
 intro k l w he hk hN hl
 have h2 := he.two
 have hb0 : Below w.heap.size w (w.alloc (.cells #[.slice none 0 0, .slice none 0 0] 158)) := (Below.refl _ w).alloc (ler _) _
 have HR := hide (hR k l (w.alloc (.cells #[.slice none 0 0, .slice none 0 0] 158)) w.heap.size _ [] (he.below (hb0.mono (by omega))) (by omega) hk hN hl (lst_new w) ⟨by simp; omega, by simp [tlen]; omega⟩)
 have hfew := rdC_few true _ k l (ler _)
 clear he hR hN hk
 obtain ⟨R, hRd⟩ : ∃ R, R = rdC true k l := ⟨_, rfl⟩
 rw [← hRd] at HR hfew ⊢
 clear hRd
 cases R with
 | err x =>
   have HR' : Hid (Calls Tryz.prog 137 _ _ fun e w' => e = .returned (.int .i64 x) ∧ x ≠ 0 ∧ GrownS _ w' _) := HR
   clear HR
   go_enter Tryz.func121, Tryz.ntmps121
   go_wp2_with fail
   refine (uh HR').mono ?_
   rintro e w1 ⟨rfl, hx, g1⟩
   have hx1 : (x != 0) = true := by simpa using hx
   have HB := hide (hb0.trans ((g1.below (n := w.heap.size) (by simp) (fun k e => by omega))))
   have HX := hide hx
   clear g1 hx
   go_wp2
   go_ret2
   exact wend_err rfl (uh HX) (uh HB)
 | ok evs =>
   have HR' : Hid (Calls Tryz.prog 137 _ _ fun e w' => e = .returned (.int .i64 0) ∧ Adds _ _ _ (evs.foldl addP []) w') := HR
   clear HR
   have hf := (few_word (r := .ok evs) hfew)
   have hf1 : (evs.foldl addP []).length ≤ l.length := hf.1
   go_enter Tryz.func121, Tryz.ntmps121
   go_wp2_with fail
   refine (uh HR').mono ?_
   rintro e w1 ⟨rfl, X1, ⟨L, bs, pv, bv, hL, hps, hbs⟩, g1, hx1⟩
   have HB := hide (hb0.trans ((g1.below (n := w.heap.size) (by simp) (fun k e => by omega))))
   have hLl : L.length ≤ 100000 := by rw [← setL_len L bs, ← List.length_map (f := Prod.fst), hps]; omega
   have HS := hide (settle_any w1 w.heap.size X1 L bs pv bv hL hLl)
   have HPS := hide hps
   have HX1 := hide (fun k h => hL.lo k h)
   clear hL hps hbs g1 hx1 HR'
   go_wp2_with fail
   refine (uh HS).mono ?_
   rintro e w2 ⟨rfl, h3, g3⟩
   have c0 : w2.cell? ⟨w.heap.size, 0, none⟩ = some pv := h3.blk.cell 0 rfl
   obtain ⟨ad, cap, hpv, _⟩ := h3.pshape
   have HW := hide (h3.wat (by rw [setL_len]; exact hLl))
   rw [uh HPS] at HW
   have HB2 := hide ((uh HB).trans ((g3.below (n := w.heap.size) (uh HB).size (fun k e => uh HX1 k e))))
   clear h3 g3 HS HPS HB
   subst hpv
   go_wp2
   go_ret2
   exact wend_ok rfl (uh HB2) (uh HW)
def DqEnd (r : Rd) (w : World) (b : Nat) (X : Nat → Prop) (ps : List Prt) (e : Ending) (w' : World) : Prop :=
 match r with
 | .ok qs => e = .returned (.int .i64 0) ∧ Adds w b X ((if qs.isEmpty then [litP [] true] else qs).foldl addP ps) w'
 | .err x => e = .returned (.int .i64 x) ∧ x ≠ 0 ∧ GrownS w w' X
theorem fold_take {qs ps : List Prt} {i : Nat} {p : Prt} (h : qs[i]? = some p) : (qs.take (i + 1)).foldl addP ps = addP ((qs.take i).foldl addP ps) p := by
 obtain ⟨h1, h2⟩ := List.getElem?_eq_some_iff.1 h
 rw [List.take_succ_eq_append_getElem h1, List.foldl_append, h2]
 rfl
theorem take_few {qs : List Prt} {n : Nat} (h : Few n qs) (i : Nat) : Few n (qs.take i) := by
 refine ⟨lee (List.length_take_le' _ _) h.1, ?_⟩
 have := tlen_app (qs.take i) (qs.drop i)
 rw [List.take_append_drop] at this
 have := h.2
 omega
theorem mem_tlen : ∀ {qs : List Prt} {p : Prt}, p ∈ qs → p.text.length ≤ tlen qs
 | q :: qs, p, h => by
   have e : tlen (q :: qs) = q.text.length + tlen qs := by simp [tlen]
   rcases List.mem_cons.1 h with rfl | h
   ·omega
   ·have := mem_tlen h; omega
theorem dquotes_any {N : Nat} (hW : WordN N) (l : List UInt8) (w : World) (b : Nat) (X : Nat → Prop) (ps : List Prt) (he : WEnv w) (hN : l.length ≤ N) (hl : l.length ≤ 4096) (h : LSt w b X ps) (hr : Room ps (2 * l.length + 2)) :
 Calls Tryz.prog 152 #[.string (BA l), (.func (Fn.func 138) #[.pointer (some ⟨b, 0, none⟩)] #[])] w fun e w' => DqEnd (rdC true 2 l).word w b X ps e w' := by
 have HW := hide (hW 2 l w he (by decide) hN hl)
 have hfew := few_word (rdC_few true _ 2 l (ler _))
 obtain ⟨R, hR⟩ : ∃ R, R = (rdC true 2 l).word := ⟨_, rfl⟩
 rw [← hR] at HW hfew ⊢
 clear hR hW he hN
 cases R with
 | err x =>
   have HW' : Hid (Calls Tryz.prog 121 _ _ fun e w' => e = .returned (.tuple #[.slice none 0 0, .int .i64 x]) ∧ x ≠ 0 ∧ Below w.heap.size w w') := HW
   clear HW
   go_enter Tryz.func152, Tryz.ntmps152
   go_wp2_with fail
   refine (uh HW').mono ?_
   rintro e w1 ⟨rfl, hx, b1⟩
   have hx1 : (x != 0) = true := by simpa using hx
   have HX := hide hx
   have HB := hide b1
   clear b1 hx
   go_wp2
   go_ret
   exact ⟨rfl, uh HX, gsb (uh HB)⟩
 | ok qs =>
   have HW' : Hid (Calls Tryz.prog 121 _ _ fun e w' => ∃ v, e = .returned (.tuple #[v, .int .i64 0]) ∧ Below w.heap.size w w' ∧ WAt w' (fun k => w.heap.size ≤ k ∧ k < w'.heap.size) v qs) := HW
   clear HW
   have hq : Few l.length qs := hfew
   have HL := hide h
   have HRm := hide hr
   have HQ := hide hq
   clear h hr hq hfew
   go_enter Tryz.func152, Tryz.ntmps152
   go_wp2_with fail
   refine (uh HW').mono ?_
   rintro e w1 ⟨v, rfl, b1, hv⟩
   obtain ⟨ad, cap, rfl, hql⟩ := hv.len
   have HB := hide b1
   have HV := hide hv
   clear hv b1 HW'
   by_cases hqe : qs = []
   ·subst hqe
    have hA : Hid (∀ w2, Below w1.heap.size w1 w2 → Calls Tryz.prog 138 #[.pointer (some ⟨b, 0, none⟩), .agg #[.int .i64 1, .string ⟨#[]⟩, .bool true, .int .i64 0, .bool false, .slice none 0 0]] w2 fun e w' => e = .returned (.tuple #[]) ∧ Adds w b X (addP ps (litP [] true)) w') := hide (fun w2 h2 =>
     (add_plain w2 b X ps 1 ⟨#[]⟩ true 0 false (((uh HL).below (uh HB)).below h2) ⟨by have := (uh HRm).1; show _ + 0 ≤ _; omega, by have := (uh HRm).2; show _ + 0 ≤ _; omega⟩).mono (fun e w' ⟨h1, h3⟩ => ⟨h1, h3.of_below ((uh HB).trans (h2.mono (uh HB).size))⟩))
    go_wp2_with fail
    refine (lit_any _ _ _).mono ?_
    rintro e w2 ⟨rfl, b2⟩
    have HB2 := hide b2
    clear b2
    go_wp2_with fail
    refine (uh hA _ (uh HB2)).mono ?_
    rintro e w3 ⟨rfl, a3⟩
    go_wp2_with fail
    go_loopw [25] (fun i wr => i = .int .i64 0 ∧ Hid (Adds w b X (addP ps (litP [] true)) wr)) (fun i _ => 0)
    case atStart => exact ⟨rfl, hide a3⟩
    case round =>
     obtain ⟨rfl, HA3⟩ := hrel
     go_wp2
     go_ret
     exact ⟨rfl, uh HA3⟩
   ·have hpos : 0 < qs.length := List.length_pos_iff.2 hqe
    have hne0 : ((qs.length : Int) == 0) = false := by rw [beq_eq_false_iff_ne]; omega
    have hemp : Hid ((if qs.isEmpty then [litP [] true] else qs) = qs) := hide (by cases qs with
     | nil => exact absurd rfl hqe
     | cons _ _ => rfl)
    have HST : Hid (LSt w1 b X ps) := hide ((uh HL).below (uh HB))
    have HXlo := hide ((uh HL).hi)
    have hbw := (uh HL).lt
    clear hqe
    go_wp2_with fail
    go_loopw [25] (fun i wr => ∃ k : Nat, k ≤ qs.length ∧ i = .int .i64 k ∧ Hid (∃ X', LSt wr b X' ((qs.take k).foldl addP ps) ∧ GrownS w1 wr X ∧ ∀ k, X' k → X k ∨ w1.heap.size ≤ k)) (fun i _ => qs.length - (intOf i).toNat)
    case atStart => exact ⟨0, Nat.zero_le _, rfl, hide ⟨X, uh HST, gsb (Below.refl _ _), fun _ h => .inl h⟩⟩
    case round =>
     obtain ⟨k, hk, rfl, HI⟩ := hrel
     by_cases hlt : k < qs.length
     ·obtain ⟨p, hp⟩ : ∃ p, qs[k]? = some p := ⟨qs[k], List.getElem?_eq_getElem hlt⟩
      obtain ⟨X', hS, hG, hX'⟩ := uh HI
      have hwat : WAt wr (fun k => w.heap.size ≤ k ∧ k < w1.heap.size) (.slice ad qs.length cap) qs := (uh HV).kept (fun k hk => hG.block k hk.2 (fun e => by have := uh HXlo k e; omega)) (fun _ h => h)
      obtain ⟨g, o, pv, had, hg, p0, p1, p2, p3, p4, p5, hsub⟩ := hwat.part hp
      obtain ⟨va, vc, rfl, _⟩ := hsub.len
      subst had
      have hgs := hG.size
      have hgw : g < wr.heap.size := by omega
      have hin : ∀ k, (w.heap.size ≤ k ∧ k < w1.heap.size) → InW b X' wr k := fun k hk => ⟨by omega, by omega, fun e => by
       rcases hX' k e with e | e
       ·have := uh HXlo k e; omega
       ·omega⟩
      have hfw := take_few (uh HQ) k
      have hfo := fold_few (qs.take k) ps
      have hpt : p.text.length ≤ l.length := lee (mem_tlen (List.mem_of_getElem? hp)) (uh HQ).2
      have HA : Hid (∀ w2, Below wr.heap.size wr w2 → Calls Tryz.prog 138 #[.pointer (some ⟨b, 0, none⟩), .agg #[.int .i64 p.kind, .string (BA p.text), .bool p.quote, .int .i64 p.op, .bool p.colon, .slice va p.sub.length vc]] w2 fun e w' => e = .returned (.tuple #[]) ∧ ∃ X2, LSt w' b X2 ((qs.take (k + 1)).foldl addP ps) ∧ GrownS w1 w' X ∧ ∀ k, X2 k → X k ∨ w1.heap.size ≤ k) := hide (fun w2 h2 => by
       refine (ladd_any w2 b X' _ ((qs.take k).foldl addP ps) _ p (hS.below h2) ⟨_, rfl, hsub.below h2 (fun k hk => (hin k hk).2.1)⟩ (fun k hk => ⟨(hin k hk).1, lle (hin k hk).2.1 h2.size, (hin k hk).2.2⟩) ?_ ?_).mono ?_
       ·have := (uh HRm).1; have := hfw.1; omega
       ·have := (uh HRm).2; have := hfw.2; omega
       ·rintro e w' ⟨rfl, a2⟩
        refine ⟨rfl, ?_⟩
        rw [fold_take hp]
        exact Adds.trans (hG.trans (gsb h2)) hX' (Adds.of_below (Below.refl _ _) a2 |> fun a => Adds.trans (gsb (Below.refl _ _)) (fun _ h => .inl h) a))
      clear hS hwat hsub hin hfw hfo hpt HI hX' hG hgs hg
      go_wp2_with fail
      refine (uh HA _ ((Below.refl _ _).alloc (ler _) _)).mono ?_
      rintro e w2 ⟨rfl, a2⟩
      have HA2 := hide a2
      clear a2 hp
      go_wp2
      go_roundw
      case rel => exact ⟨k + 1, by omega, by go_num, HA2⟩
      case measure => simp [intOf]; omega
     ·have HE : Hid (Adds w b X (qs.foldl addP ps) wr) := hide (by
       obtain ⟨X', hS, hG, hX'⟩ := uh HI
       rw [List.take_of_length_le (by omega)] at hS
       exact Adds.of_below (uh HB) ⟨X', hS, hG, hX'⟩)
      clear HI
      go_wp2
      go_ret
      refine ⟨rfl, ?_⟩
      rw [uh hemp]
      exact uh HE
def BrEnd (r : Bd) (w : World) (e : Ending) (w' : World) : Prop :=
 match r with
 | .ok p => ∃ v, e = .returned (.tuple #[partV p v, .int .i64 0]) ∧ Below w.heap.size w w' ∧ WAt w' (fun k => w.heap.size ≤ k ∧ k < w'.heap.size) v p.sub
 | .err x => e = .returned (.tuple #[.agg #[.int .i64 0, .string ⟨#[]⟩, .bool false, .int .i64 0, .bool false, .slice none 0 0], .int .i64 x]) ∧ x ≠ 0 ∧ Below w.heap.size w w'
theorem within_lt (k : Nat) (op : Int) : withinW k op < 6 := by
 unfold withinW
 split
 ·decide
 ·split <;> decide
theorem has35 (l : List UInt8) : Lib.hasPrefix l [35] = (l.head? == some 35) := by
 cases l with
 | nil => rfl
 | cons c r => rw [hasP_one]; simp [Bool.beq_eq_decide_eq]
theorem trim35 {l : List UInt8} (h : (l.head? == some 35) = true) : Lib.trimPrefix l [35] = l.drop 1 := by
 unfold Lib.trimPrefix
 rw [has35, h]
 rfl
theorem below_T6 {w w1 : World} (hb : Below w.heap.size w w1) (x0 x1 x2 x3 x4 x5 : Value) : Below w.heap.size w (T6 w1 w.heap.size 0 x0 x1 x2 x3 x4 x5) :=
 hb.trans ((T6_grown w1 w.heap.size 0 _ _ _ _ _ _).below hb.size (fun k e => by omega))
theorem brace_len (k : Nat) (l : List UInt8) (w : World) (hl : l.length ≤ 4096) (h1 : (l.head? == some 35) = true) (h2 : l.drop 1 ≠ []) (h3 : parN (l.drop 1) = (l.drop 1).length) :
 Calls Tryz.prog 158 #[.int .i64 (k : Int), .string (BA l)] w fun e w' => BrEnd (.ok (.mk 2 (l.drop 1) false 1 false [])) w e w' := by
 have HC : Hid (∀ W, Calls Tryz.prog 160 #[.string (BA l), .string ⟨#[35]⟩] W fun e w' => e = .returned (.tuple #[.string (BA (l.drop 1)), .bool true]) ∧ w' = W) := hide (fun W => by
  have := Tryz.strings_CutPrefix (BA l) ⟨#[35]⟩ W
  rw [show Lib.hasPrefix (BA l).data.toList (⟨#[35]⟩ : ByteArray).data.toList = true from (has35 l).trans h1, show Lib.trimPrefix (BA l).data.toList (⟨#[35]⟩ : ByteArray).data.toList = l.drop 1 from trim35 h1] at this
  exact this)
 obtain ⟨u, hu⟩ : ∃ u, u = l.drop 1 := ⟨_, rfl⟩
 have hul : u.length ≤ 4096 := by rw [hu]; simp; omega
 rw [← hu] at HC h2 h3 ⊢
 have HP := hide (fun W => parameter_any (BA u) W (by simp; omega))
 simp only [BA_list, h3] at HP
 have t2 : (BA u).toList.isEmpty = false := by
  rw [BA_toList]
  cases u with
  | nil => exact absurd rfl h2
  | cons _ _ => rfl
 clear hu h1 h2 h3
 go_enter Tryz.func158, Tryz.ntmps158
 go_wp2_with fail
 refine (uh HC _).mono ?_
 rintro e w1 ⟨rfl, hw1⟩
 have hw2 := hw1.symm
 subst hw2
 clear hw1
 go_wp2_with fail
 refine (uh HP _).mono ?_
 rintro e w1 ⟨rfl, hw1⟩
 have hw2 := hw1.symm
 subst hw2
 clear hw1
 go_wp2
 refine bodyPost_ret (v := .tuple #[partV (.mk 2 u false 1 false []) (.slice none 0 0), .int .i64 0]) (results_part2 rfl _ _ w.heap.size _ _ _ _ _ _ _ rfl rfl (Blk.new w _ _)) rfl ?_
 exact ⟨_, rfl, (Below.refl _ _).alloc (ler _) _, wat_nil _ _ _ _⟩
theorem brace_no (k : Nat) (l : List UInt8) (w : World) (hl : l.length ≤ 4096) (hnot : ¬ (l.head? = some 35 ∧ l.drop 1 ≠ [] ∧ parN (l.drop 1) = (l.drop 1).length)) (hp : parN l = 0) :
 Calls Tryz.prog 158 #[.int .i64 (k : Int), .string (BA l)] w fun e w' => BrEnd (.err 10) w e w' := by
 have HPL := hide (fun W => parameter_any (BA l) W (by simp; omega))
 simp only [BA_list] at HPL
 rw [hp] at HPL
 clear hp
 have hways : ((l.head? == some 35) = false) ∨ ((l.head? == some 35) = true ∧ l.drop 1 = []) ∨ ((l.head? == some 35) = true ∧ l.drop 1 ≠ [] ∧ parN (l.drop 1) ≠ (l.drop 1).length) := by
  by_cases h1 : l.head? = some 35
  ·by_cases h2 : l.drop 1 = []
   ·exact .inr (.inl ⟨by simpa using h1, h2⟩)
   ·exact .inr (.inr ⟨by simpa using h1, h2, fun h3 => hnot ⟨h1, h2, h3⟩⟩)
  ·exact .inl (by simpa using h1)
 have HCT : Hid (∀ W, Calls Tryz.prog 160 #[.string (BA l), .string ⟨#[35]⟩] W fun e w' => e = .returned (.tuple #[.string (BA (if (l.head? == some 35) then l.drop 1 else l)), .bool (l.head? == some 35)]) ∧ w' = W) := hide (fun W => by
  have := Tryz.strings_CutPrefix (BA l) ⟨#[35]⟩ W
  rw [show Lib.hasPrefix (BA l).data.toList (⟨#[35]⟩ : ByteArray).data.toList = (l.head? == some 35) from has35 l, show Lib.trimPrefix (BA l).data.toList (⟨#[35]⟩ : ByteArray).data.toList = (if (l.head? == some 35) then l.drop 1 else l) from by unfold Lib.trimPrefix; rw [has35]; rfl] at this
  exact this)
 clear hnot
 rcases hways with h1 | ⟨h1, h2⟩ | ⟨h1, h2, h3⟩
 ·rw [h1] at HCT
  simp only [Bool.false_eq_true, if_false] at HCT
  clear h1
  go_enter Tryz.func158, Tryz.ntmps158
  go_wp2_with fail
  refine (uh HCT _).mono ?_
  rintro e w1 ⟨rfl, hw1⟩
  have hw2 := hw1.symm
  subst hw2
  clear hw1
  go_wp2_with fail
  refine (uh HPL _).mono ?_
  rintro e w1 ⟨rfl, hw1⟩
  have hw2 := hw1.symm
  subst hw2
  clear hw1
  go_wp2
  refine bodyPost_ret (v := .tuple #[.agg #[.int .i64 0, .string ⟨#[]⟩, .bool false, .int .i64 0, .bool false, .slice none 0 0], .int .i64 10]) (results_part2 rfl _ _ w.heap.size _ _ _ _ _ _ _ rfl rfl (Blk.new w _ _)) rfl ?_
  exact ⟨rfl, by decide, (Below.refl _ _).alloc (ler _) _⟩
 ·rw [h1, h2] at HCT
  simp only [if_true] at HCT
  have t2 : (BA []).toList.isEmpty = true := by rw [BA_toList]; rfl
  clear h1 h2
  go_enter Tryz.func158, Tryz.ntmps158
  go_wp2_with fail
  refine (uh HCT _).mono ?_
  rintro e w1 ⟨rfl, hw1⟩
  have hw2 := hw1.symm
  subst hw2
  clear hw1
  go_wp2_with fail
  refine (uh HPL _).mono ?_
  rintro e w1 ⟨rfl, hw1⟩
  have hw2 := hw1.symm
  subst hw2
  clear hw1
  go_wp2
  refine bodyPost_ret (v := .tuple #[.agg #[.int .i64 0, .string ⟨#[]⟩, .bool false, .int .i64 0, .bool false, .slice none 0 0], .int .i64 10]) (results_part2 rfl _ _ w.heap.size _ _ _ _ _ _ _ rfl rfl (Blk.new w _ _)) rfl ?_
  exact ⟨rfl, by decide, (Below.refl _ _).alloc (ler _) _⟩
 ·rw [h1] at HCT
  simp only [if_true] at HCT
  obtain ⟨u, hu⟩ : ∃ u, u = l.drop 1 := ⟨_, rfl⟩
  have hul : u.length ≤ 4096 := by rw [hu]; simp; omega
  rw [← hu] at HCT h2 h3
  have HPU := hide (fun W => parameter_any (BA u) W (by simp; omega))
  simp only [BA_list] at HPU
  have t2 : (BA u).toList.isEmpty = false := by
   rw [BA_toList]
   cases u with
   | nil => exact absurd rfl h2
   | cons _ _ => rfl
  obtain ⟨pu, hpu⟩ : ∃ x, x = parN u := ⟨_, rfl⟩
  rw [← hpu] at HPU h3
  have h3' : ((pu : Int) == (u.length : Int)) = false := by rw [beq_eq_false_iff_ne]; omega
  clear hu h1 h2 h3 hpu
  go_enter Tryz.func158, Tryz.ntmps158
  go_wp2_with fail
  refine (uh HCT _).mono ?_
  rintro e w1 ⟨rfl, hw1⟩
  have hw2 := hw1.symm
  subst hw2
  clear hw1
  go_wp2_with fail
  refine (uh HPU _).mono ?_
  rintro e w1 ⟨rfl, hw1⟩
  have hw2 := hw1.symm
  subst hw2
  clear hw1
  go_wp2_with fail
  refine (uh HPL _).mono ?_
  rintro e w1 ⟨rfl, hw1⟩
  have hw2 := hw1.symm
  subst hw2
  clear hw1
  go_wp2
  refine bodyPost_ret (v := .tuple #[.agg #[.int .i64 0, .string ⟨#[]⟩, .bool false, .int .i64 0, .bool false, .slice none 0 0], .int .i64 10]) (results_part2 rfl _ _ w.heap.size _ _ _ _ _ _ _ rfl rfl (Blk.new w _ _)) rfl ?_
  exact ⟨rfl, by decide, (Below.refl _ _).alloc (ler _) _⟩
theorem brace_whole (k : Nat) (l : List UInt8) (w : World) (hl : l.length ≤ 4096) (hnot : ¬ (l.head? = some 35 ∧ l.drop 1 ≠ [] ∧ parN (l.drop 1) = (l.drop 1).length)) (hp : parN l ≠ 0) (hw : parN l = l.length) :
 Calls Tryz.prog 158 #[.int .i64 (k : Int), .string (BA l)] w fun e w' => BrEnd (.ok (.mk 2 l false 0 false [])) w e w' := by
 have HPL := hide (fun W => parameter_any (BA l) W (by simp; omega))
 simp only [BA_list] at HPL
 rw [hw] at HPL hp
 have hp0 : ((l.length : Int) == 0) = false := by rw [beq_eq_false_iff_ne]; omega
 have HX : Hid ((BA l).extract 0 l.length = BA l) := hide (by have := extract_take (BA l) 0 l.length; simpa using this)
 clear hp hw
 have hways : ((l.head? == some 35) = false) ∨ ((l.head? == some 35) = true ∧ l.drop 1 = []) ∨ ((l.head? == some 35) = true ∧ l.drop 1 ≠ [] ∧ parN (l.drop 1) ≠ (l.drop 1).length) := by
  by_cases h1 : l.head? = some 35
  ·by_cases h2 : l.drop 1 = []
   ·exact .inr (.inl ⟨by simpa using h1, h2⟩)
   ·exact .inr (.inr ⟨by simpa using h1, h2, fun h3 => hnot ⟨h1, h2, h3⟩⟩)
  ·exact .inl (by simpa using h1)
 have HCT : Hid (∀ W, Calls Tryz.prog 160 #[.string (BA l), .string ⟨#[35]⟩] W fun e w' => e = .returned (.tuple #[.string (BA (if (l.head? == some 35) then l.drop 1 else l)), .bool (l.head? == some 35)]) ∧ w' = W) := hide (fun W => by
  have := Tryz.strings_CutPrefix (BA l) ⟨#[35]⟩ W
  rw [show Lib.hasPrefix (BA l).data.toList (⟨#[35]⟩ : ByteArray).data.toList = (l.head? == some 35) from has35 l, show Lib.trimPrefix (BA l).data.toList (⟨#[35]⟩ : ByteArray).data.toList = (if (l.head? == some 35) then l.drop 1 else l) from by unfold Lib.trimPrefix; rw [has35]; rfl] at this
  exact this)
 clear hnot
 rcases hways with h1 | ⟨h1, h2⟩ | ⟨h1, h2, h3⟩
 ·rw [h1] at HCT
  simp only [Bool.false_eq_true, if_false] at HCT
  clear h1
  go_enter Tryz.func158, Tryz.ntmps158
  go_wp2_with fail
  refine (uh HCT _).mono ?_
  rintro e w1 ⟨rfl, hw1⟩
  have hw2 := hw1.symm
  subst hw2
  clear hw1
  go_wp2_with fail
  refine (uh HPL _).mono ?_
  rintro e w1 ⟨rfl, hw1⟩
  have hw2 := hw1.symm
  subst hw2
  clear hw1
  go_wp2
  refine bodyPost_ret (v := .tuple #[.agg #[.int .i64 2, .string ((BA l).extract 0 l.length), .bool false, .int .i64 0, .bool false, .slice none 0 0], .int .i64 0]) (results_part2 rfl _ _ w.heap.size _ _ _ _ _ _ _ rfl rfl ((Blk.new w _ _).alloc _)) rfl ?_
  rw [uh HX]
  exact ⟨_, rfl, ((Below.refl _ _).alloc (ler _) _).alloc (by simp) _, wat_nil _ _ _ _⟩
 ·rw [h1, h2] at HCT
  simp only [if_true] at HCT
  have t2 : (BA []).toList.isEmpty = true := by rw [BA_toList]; rfl
  clear h1 h2
  go_enter Tryz.func158, Tryz.ntmps158
  go_wp2_with fail
  refine (uh HCT _).mono ?_
  rintro e w1 ⟨rfl, hw1⟩
  have hw2 := hw1.symm
  subst hw2
  clear hw1
  go_wp2_with fail
  refine (uh HPL _).mono ?_
  rintro e w1 ⟨rfl, hw1⟩
  have hw2 := hw1.symm
  subst hw2
  clear hw1
  go_wp2
  refine bodyPost_ret (v := .tuple #[.agg #[.int .i64 2, .string ((BA l).extract 0 l.length), .bool false, .int .i64 0, .bool false, .slice none 0 0], .int .i64 0]) (results_part2 rfl _ _ w.heap.size _ _ _ _ _ _ _ rfl rfl ((Blk.new w _ _).alloc _)) rfl ?_
  rw [uh HX]
  exact ⟨_, rfl, ((Below.refl _ _).alloc (ler _) _).alloc (by simp) _, wat_nil _ _ _ _⟩
 ·rw [h1] at HCT
  simp only [if_true] at HCT
  obtain ⟨u, hu⟩ : ∃ u, u = l.drop 1 := ⟨_, rfl⟩
  have hul : u.length ≤ 4096 := by rw [hu]; simp; omega
  rw [← hu] at HCT h2 h3
  have HPU := hide (fun W => parameter_any (BA u) W (by simp; omega))
  simp only [BA_list] at HPU
  have t2 : (BA u).toList.isEmpty = false := by
   rw [BA_toList]
   cases u with
   | nil => exact absurd rfl h2
   | cons _ _ => rfl
  obtain ⟨pu, hpu⟩ : ∃ x, x = parN u := ⟨_, rfl⟩
  rw [← hpu] at HPU h3
  have h3' : ((pu : Int) == (u.length : Int)) = false := by rw [beq_eq_false_iff_ne]; omega
  clear hu h1 h2 h3 hpu
  go_enter Tryz.func158, Tryz.ntmps158
  go_wp2_with fail
  refine (uh HCT _).mono ?_
  rintro e w1 ⟨rfl, hw1⟩
  have hw2 := hw1.symm
  subst hw2
  clear hw1
  go_wp2_with fail
  refine (uh HPU _).mono ?_
  rintro e w1 ⟨rfl, hw1⟩
  have hw2 := hw1.symm
  subst hw2
  clear hw1
  go_wp2_with fail
  refine (uh HPL _).mono ?_
  rintro e w1 ⟨rfl, hw1⟩
  have hw2 := hw1.symm
  subst hw2
  clear hw1
  go_wp2
  refine bodyPost_ret (v := .tuple #[.agg #[.int .i64 2, .string ((BA l).extract 0 l.length), .bool false, .int .i64 0, .bool false, .slice none 0 0], .int .i64 0]) (results_part2 rfl _ _ w.heap.size _ _ _ _ _ _ _ rfl rfl ((Blk.new w _ _).alloc _)) rfl ?_
  rw [uh HX]
  exact ⟨_, rfl, ((Below.refl _ _).alloc (ler _) _).alloc (by simp) _, wat_nil _ _ _ _⟩
theorem brace_bad (k : Nat) (l : List UInt8) (w : World) (hl : l.length ≤ 4096) (hnot : ¬ (l.head? = some 35 ∧ l.drop 1 ≠ [] ∧ parN (l.drop 1) = (l.drop 1).length)) (he : WEnv w) (hp : parN l ≠ 0) (hw : parN l ≠ l.length) (hs : sgnL (colonL (l.drop (parN l))) (behindL (l.drop (parN l))) = none) :
 Calls Tryz.prog 158 #[.int .i64 (k : Int), .string (BA l)] w fun e w' => BrEnd (.err 10) w e w' := by
 have HPL := hide (fun W => parameter_any (BA l) W (by simp; omega))
 simp only [BA_list] at HPL
 have hle := par_le l
 obtain ⟨n, hn⟩ : ∃ n, n = parN l := ⟨_, rfl⟩
 rw [← hn] at HPL hp hw hs hle
 have hp0 : ((n : Int) == 0) = false := by rw [beq_eq_false_iff_ne]; omega
 have hw0 : ((n : Int) == (l.length : Int)) = false := by rw [beq_eq_false_iff_ne]; omega
 have hn1 : (n : Int) ≤ (l.length : Int) := by omega
 have h2w := he.two
 have HX : Hid ((BA l).extract n l.length = BA (l.drop n)) := hide (by have := extract_end (BA l) n; simpa using this)
 have HOP : Hid (∀ o1 t0, Calls Tryz.prog 162 #[.pointer (some ⟨w.heap.size + 1, 0, none⟩), .string (BA (l.drop n))] ((w.alloc o1).alloc (.cells #[.int .i64 2, t0, .bool false, .int .i64 0, .bool false, .slice none 0 0] 89)) fun e w' => e = .returned (.tuple #[.string ⟨#[]⟩, .bool false]) ∧ GrownS ((w.alloc o1).alloc (.cells #[.int .i64 2, t0, .bool false, .int .i64 0, .bool false, .slice none 0 0] 89)) w' (fun k => k = w.heap.size + 1)) := hide (fun o1 t0 => by
  have hb : PBk ((w.alloc o1).alloc (.cells #[.int .i64 2, t0, .bool false, .int .i64 0, .bool false, .slice none 0 0] 89)) (w.heap.size + 1) (.int .i64 2) t0 (.bool false) (.slice none 0 0) 0 false := by
   have := Blk.new (w.alloc o1) 89 #[.int .i64 2, t0, .bool false, .int .i64 0, .bool false, .slice none 0 0]
   rwa [show (w.alloc o1).heap.size = w.heap.size + 1 by simp] at this
  refine (operation_any (l.drop n) (w.heap.size + 1) _ _ _ _ 0 false _ (he.below ((((Below.refl _ w).alloc (ler _) _).alloc (by simp) _).mono (by omega))) hb (by omega)).mono ?_
  intro e w' h
  unfold OpEnd at h
  rw [hs] at h
  exact h)
 clear hp hw hs hn he
 have hways : ((l.head? == some 35) = false) ∨ ((l.head? == some 35) = true ∧ l.drop 1 = []) ∨ ((l.head? == some 35) = true ∧ l.drop 1 ≠ [] ∧ parN (l.drop 1) ≠ (l.drop 1).length) := by
  by_cases h1 : l.head? = some 35
  ·by_cases h2 : l.drop 1 = []
   ·exact .inr (.inl ⟨by simpa using h1, h2⟩)
   ·exact .inr (.inr ⟨by simpa using h1, h2, fun h3 => hnot ⟨h1, h2, h3⟩⟩)
  ·exact .inl (by simpa using h1)
 have HCT : Hid (∀ W, Calls Tryz.prog 160 #[.string (BA l), .string ⟨#[35]⟩] W fun e w' => e = .returned (.tuple #[.string (BA (if (l.head? == some 35) then l.drop 1 else l)), .bool (l.head? == some 35)]) ∧ w' = W) := hide (fun W => by
  have := Tryz.strings_CutPrefix (BA l) ⟨#[35]⟩ W
  rw [show Lib.hasPrefix (BA l).data.toList (⟨#[35]⟩ : ByteArray).data.toList = (l.head? == some 35) from has35 l, show Lib.trimPrefix (BA l).data.toList (⟨#[35]⟩ : ByteArray).data.toList = (if (l.head? == some 35) then l.drop 1 else l) from by unfold Lib.trimPrefix; rw [has35]; rfl] at this
  exact this)
 clear hnot
 rcases hways with h1 | ⟨h1, h2⟩ | ⟨h1, h2, h3⟩
 ·rw [h1] at HCT
  simp only [Bool.false_eq_true, if_false] at HCT
  clear h1
  go_enter Tryz.func158, Tryz.ntmps158
  go_wp2_with fail
  refine (uh HCT _).mono ?_
  rintro e w1 ⟨rfl, hw1⟩
  have hw2 := hw1.symm
  subst hw2
  clear hw1
  go_wp2_with fail
  refine (uh HPL _).mono ?_
  rintro e w1 ⟨rfl, hw1⟩
  have hw2 := hw1.symm
  subst hw2
  clear hw1
  go_wp2_with fail
  rw [uh HX]
  refine (uh HOP _ _).mono ?_
  rintro e w3 ⟨rfl, g3⟩
  have HBZ := hide (Blk.grownS ((Blk.new w 89 #[.int .i64 0, .string ⟨#[]⟩, .bool false, .int .i64 0, .bool false, .slice none 0 0]).alloc _) g3 (by simp))
  have HBB := hide ((((Below.refl _ w).alloc (ler _) _).alloc (by simp) _).trans (g3.below (n := w.heap.size) (by simp; omega) (fun k e => by omega)))
  obtain ⟨z0, z1, z2, z3, z4, z5⟩ := cel6 (uh HBZ)
  have zf : ∀ j, w3.frozen? ⟨w.heap.size, j, none⟩ = false := fun j => (uh HBZ).frozen j
  clear g3 HOP
  go_wp2
  refine bodyPost_ret (v := .tuple #[.agg #[.int .i64 0, .string ⟨#[]⟩, .bool false, .int .i64 0, .bool false, .slice none 0 0], .int .i64 10]) (results_part2 rfl _ _ w.heap.size _ _ _ _ _ _ _ rfl rfl (blk_T6 (uh HBZ) (.int .i64 0) (.string ⟨#[]⟩) (.bool false) (.int .i64 0) (.bool false) (.slice none 0 0))) rfl ?_
  exact ⟨rfl, by decide, below_T6 (uh HBB) _ _ _ _ _ _⟩
 ·rw [h1, h2] at HCT
  simp only [if_true] at HCT
  have t2 : (BA []).toList.isEmpty = true := by rw [BA_toList]; rfl
  clear h1 h2
  go_enter Tryz.func158, Tryz.ntmps158
  go_wp2_with fail
  refine (uh HCT _).mono ?_
  rintro e w1 ⟨rfl, hw1⟩
  have hw2 := hw1.symm
  subst hw2
  clear hw1
  go_wp2_with fail
  refine (uh HPL _).mono ?_
  rintro e w1 ⟨rfl, hw1⟩
  have hw2 := hw1.symm
  subst hw2
  clear hw1
  go_wp2_with fail
  rw [uh HX]
  refine (uh HOP _ _).mono ?_
  rintro e w3 ⟨rfl, g3⟩
  have HBZ := hide (Blk.grownS ((Blk.new w 89 #[.int .i64 0, .string ⟨#[]⟩, .bool false, .int .i64 0, .bool false, .slice none 0 0]).alloc _) g3 (by simp))
  have HBB := hide ((((Below.refl _ w).alloc (ler _) _).alloc (by simp) _).trans (g3.below (n := w.heap.size) (by simp; omega) (fun k e => by omega)))
  obtain ⟨z0, z1, z2, z3, z4, z5⟩ := cel6 (uh HBZ)
  have zf : ∀ j, w3.frozen? ⟨w.heap.size, j, none⟩ = false := fun j => (uh HBZ).frozen j
  clear g3 HOP
  go_wp2
  refine bodyPost_ret (v := .tuple #[.agg #[.int .i64 0, .string ⟨#[]⟩, .bool false, .int .i64 0, .bool false, .slice none 0 0], .int .i64 10]) (results_part2 rfl _ _ w.heap.size _ _ _ _ _ _ _ rfl rfl (blk_T6 (uh HBZ) (.int .i64 0) (.string ⟨#[]⟩) (.bool false) (.int .i64 0) (.bool false) (.slice none 0 0))) rfl ?_
  exact ⟨rfl, by decide, below_T6 (uh HBB) _ _ _ _ _ _⟩
 ·rw [h1] at HCT
  simp only [if_true] at HCT
  obtain ⟨u, hu⟩ : ∃ u, u = l.drop 1 := ⟨_, rfl⟩
  have hul : u.length ≤ 4096 := by rw [hu]; simp; omega
  rw [← hu] at HCT h2 h3
  have HPU := hide (fun W => parameter_any (BA u) W (by simp; omega))
  simp only [BA_list] at HPU
  have t2 : (BA u).toList.isEmpty = false := by
   rw [BA_toList]
   cases u with
   | nil => exact absurd rfl h2
   | cons _ _ => rfl
  obtain ⟨pu, hpu⟩ : ∃ x, x = parN u := ⟨_, rfl⟩
  rw [← hpu] at HPU h3
  have h3' : ((pu : Int) == (u.length : Int)) = false := by rw [beq_eq_false_iff_ne]; omega
  clear hu h1 h2 h3 hpu
  go_enter Tryz.func158, Tryz.ntmps158
  go_wp2_with fail
  refine (uh HCT _).mono ?_
  rintro e w1 ⟨rfl, hw1⟩
  have hw2 := hw1.symm
  subst hw2
  clear hw1
  go_wp2_with fail
  refine (uh HPU _).mono ?_
  rintro e w1 ⟨rfl, hw1⟩
  have hw2 := hw1.symm
  subst hw2
  clear hw1
  go_wp2_with fail
  refine (uh HPL _).mono ?_
  rintro e w1 ⟨rfl, hw1⟩
  have hw2 := hw1.symm
  subst hw2
  clear hw1
  go_wp2_with fail
  rw [uh HX]
  refine (uh HOP _ _).mono ?_
  rintro e w3 ⟨rfl, g3⟩
  have HBZ := hide (Blk.grownS ((Blk.new w 89 #[.int .i64 0, .string ⟨#[]⟩, .bool false, .int .i64 0, .bool false, .slice none 0 0]).alloc _) g3 (by simp))
  have HBB := hide ((((Below.refl _ w).alloc (ler _) _).alloc (by simp) _).trans (g3.below (n := w.heap.size) (by simp; omega) (fun k e => by omega)))
  obtain ⟨z0, z1, z2, z3, z4, z5⟩ := cel6 (uh HBZ)
  have zf : ∀ j, w3.frozen? ⟨w.heap.size, j, none⟩ = false := fun j => (uh HBZ).frozen j
  clear g3 HOP
  go_wp2
  refine bodyPost_ret (v := .tuple #[.agg #[.int .i64 0, .string ⟨#[]⟩, .bool false, .int .i64 0, .bool false, .slice none 0 0], .int .i64 10]) (results_part2 rfl _ _ w.heap.size _ _ _ _ _ _ _ rfl rfl (blk_T6 (uh HBZ) (.int .i64 0) (.string ⟨#[]⟩) (.bool false) (.int .i64 0) (.bool false) (.slice none 0 0))) rfl ?_
  exact ⟨rfl, by decide, below_T6 (uh HBB) _ _ _ _ _ _⟩
theorem brace_err {N : Nat} (hW : WordN N) (k : Nat) (l : List UInt8) (w : World) (hl : l.length ≤ 4096) (hnot : ¬ (l.head? = some 35 ∧ l.drop 1 ≠ [] ∧ parN (l.drop 1) = (l.drop 1).length)) (he : WEnv w) (hk : k < 6) (hlN : l.length ≤ N) (hp : parN l ≠ 0) (hw : parN l ≠ l.length) (op : Int) (t : List UInt8) (hs : sgnL (colonL (l.drop (parN l))) (behindL (l.drop (parN l))) = some (op, t)) (x : Int) (hR : (rdC true (withinW k op) t).word = .err x) :
 Calls Tryz.prog 158 #[.int .i64 (k : Int), .string (BA l)] w fun e w' => BrEnd (.err x) w e w' := by
 have HPL := hide (fun W => parameter_any (BA l) W (by simp; omega))
 simp only [BA_list] at HPL
 have hle := par_le l
 have htl : t.length ≤ l.length := by
  have h1 := sgn_len hs
  have h2 := behind_len (l.drop (parN l))
  have h3 : (l.drop (parN l)).length ≤ l.length := by simp
  omega
 obtain ⟨n, hn⟩ : ∃ n, n = parN l := ⟨_, rfl⟩
 rw [← hn] at HPL hp hw hs hle
 have hp0 : ((n : Int) == 0) = false := by rw [beq_eq_false_iff_ne]; omega
 have hw0 : ((n : Int) == (l.length : Int)) = false := by rw [beq_eq_false_iff_ne]; omega
 have hn1 : (n : Int) ≤ (l.length : Int) := by omega
 have h2w := he.two
 have HX : Hid ((BA l).extract n l.length = BA (l.drop n)) := hide (by have := extract_end (BA l) n; simpa using this)
 have HXT : Hid ((BA l).extract 0 n = BA (l.take n)) := hide (by have := extract_take (BA l) 0 n; simpa using this)
 obtain ⟨cl, hcl⟩ : ∃ x, x = colonL (l.drop n) := ⟨_, rfl⟩
 have HOP : Hid (∀ o1 t0, Calls Tryz.prog 162 #[.pointer (some ⟨w.heap.size + 1, 0, none⟩), .string (BA (l.drop n))] ((w.alloc o1).alloc (.cells #[.int .i64 2, t0, .bool false, .int .i64 0, .bool false, .slice none 0 0] 89)) fun e w' => e = .returned (.tuple #[.string (BA t), .bool true]) ∧ GrownS ((w.alloc o1).alloc (.cells #[.int .i64 2, t0, .bool false, .int .i64 0, .bool false, .slice none 0 0] 89)) w' (fun k => k = w.heap.size + 1) ∧ PBk w' (w.heap.size + 1) (.int .i64 2) t0 (.bool false) (.slice none 0 0) op cl) := hide (fun o1 t0 => by
  have hb : PBk ((w.alloc o1).alloc (.cells #[.int .i64 2, t0, .bool false, .int .i64 0, .bool false, .slice none 0 0] 89)) (w.heap.size + 1) (.int .i64 2) t0 (.bool false) (.slice none 0 0) 0 false := by
   have := Blk.new (w.alloc o1) 89 #[.int .i64 2, t0, .bool false, .int .i64 0, .bool false, .slice none 0 0]
   rwa [show (w.alloc o1).heap.size = w.heap.size + 1 by simp] at this
  refine (operation_any (l.drop n) (w.heap.size + 1) _ _ _ _ 0 false _ (he.below ((((Below.refl _ w).alloc (ler _) _).alloc (by simp) _).mono (by omega))) hb (by omega)).mono ?_
  intro e w' h
  unfold OpEnd at h
  rw [hs] at h
  rw [hcl]
  exact h)
 have HWI := hide (fun W (hE : WEnv W) => within_any k op W hE hk)
 have hwk : withinW k op < 6 := within_lt k op
 have HWD : Hid (∀ W, WEnv W → Calls Tryz.prog 121 #[.int .i64 ((withinW k op : Nat) : Int), .string (BA t)] W fun e w' => WEnd (rdC true (withinW k op) t).word W e w') := hide (fun W hE => hW (withinW k op) t W hE hwk (by omega) (by omega))
 rw [hR] at HWD
 have HE := hide he
 have HCL := hide hcl
 clear hp hw hs hn he hW hcl hR hwk htl hlN
 have hways : ((l.head? == some 35) = false) ∨ ((l.head? == some 35) = true ∧ l.drop 1 = []) ∨ ((l.head? == some 35) = true ∧ l.drop 1 ≠ [] ∧ parN (l.drop 1) ≠ (l.drop 1).length) := by
  by_cases h1 : l.head? = some 35
  ·by_cases h2 : l.drop 1 = []
   ·exact .inr (.inl ⟨by simpa using h1, h2⟩)
   ·exact .inr (.inr ⟨by simpa using h1, h2, fun h3 => hnot ⟨h1, h2, h3⟩⟩)
  ·exact .inl (by simpa using h1)
 have HCT : Hid (∀ W, Calls Tryz.prog 160 #[.string (BA l), .string ⟨#[35]⟩] W fun e w' => e = .returned (.tuple #[.string (BA (if (l.head? == some 35) then l.drop 1 else l)), .bool (l.head? == some 35)]) ∧ w' = W) := hide (fun W => by
  have := Tryz.strings_CutPrefix (BA l) ⟨#[35]⟩ W
  rw [show Lib.hasPrefix (BA l).data.toList (⟨#[35]⟩ : ByteArray).data.toList = (l.head? == some 35) from has35 l, show Lib.trimPrefix (BA l).data.toList (⟨#[35]⟩ : ByteArray).data.toList = (if (l.head? == some 35) then l.drop 1 else l) from by unfold Lib.trimPrefix; rw [has35]; rfl] at this
  exact this)
 clear hnot
 rcases hways with h1 | ⟨h1, h2⟩ | ⟨h1, h2, h3⟩
 ·rw [h1] at HCT
  simp only [Bool.false_eq_true, if_false] at HCT
  clear h1
  go_enter Tryz.func158, Tryz.ntmps158
  go_wp2_with fail
  refine (uh HCT _).mono ?_
  rintro e w1 ⟨rfl, hw1⟩
  have hw2 := hw1.symm
  subst hw2
  clear hw1
  go_wp2_with fail
  refine (uh HPL _).mono ?_
  rintro e w1 ⟨rfl, hw1⟩
  have hw2 := hw1.symm
  subst hw2
  clear hw1
  go_wp2_with fail
  rw [uh HX]
  refine (uh HOP _ _).mono ?_
  rintro e w3 ⟨rfl, g3, hpb3⟩
  have HB3 := hide ((((Below.refl _ w).alloc (ler _) _).alloc (by simp) _).trans (g3.below (n := w.heap.size) (by simp; omega) (fun k e => by omega)))
  have HE3 := hide ((uh HE).below ((uh HB3).mono (by omega)))
  have HZ3 := hide (Blk.grownS ((Blk.new w 89 #[.int .i64 0, .string ⟨#[]⟩, .bool false, .int .i64 0, .bool false, .slice none 0 0]).alloc _) g3 (by simp))
  have p3 : w3.cell? ⟨w.heap.size + 1, 3, none⟩ = some (.int .i64 op) := Blk.cell hpb3 3 rfl
  have HP3 := hide hpb3
  clear g3 HOP hpb3
  go_wp2_with fail
  refine (uh HWI _ (uh HE3)).mono ?_
  rintro e w4 ⟨rfl, hw4⟩
  have hw5 := hw4.symm
  subst hw5
  clear hw4
  go_wp2_with fail
  refine (uh HWD _ (uh HE3)).mono ?_
  rintro e w5 ⟨rfl, hx, b5⟩
  have hx1 : (x != 0) = true := by simpa using hx
  have HXX := hide hx
  have HBZ := hide (Blk.below (uh HZ3) b5 (Blk.lt (uh HZ3)))
  have HBB := hide ((uh HB3).trans (b5.mono (uh HB3).size))
  obtain ⟨z0, z1, z2, z3, z4, z5⟩ := cel6 (uh HBZ)
  have zf : ∀ j, w5.frozen? ⟨w.heap.size, j, none⟩ = false := fun j => (uh HBZ).frozen j
  clear b5 hx p3 HWD HWI
  go_wp2
  refine bodyPost_ret (v := .tuple #[.agg #[.int .i64 0, .string ⟨#[]⟩, .bool false, .int .i64 0, .bool false, .slice none 0 0], .int .i64 x]) (results_part2 rfl _ _ w.heap.size _ _ _ _ _ _ _ rfl rfl (blk_T6 (uh HBZ) (.int .i64 0) (.string ⟨#[]⟩) (.bool false) (.int .i64 0) (.bool false) (.slice none 0 0))) rfl ?_
  exact ⟨rfl, uh HXX, below_T6 (uh HBB) _ _ _ _ _ _⟩
 ·rw [h1, h2] at HCT
  simp only [if_true] at HCT
  have t2 : (BA []).toList.isEmpty = true := by rw [BA_toList]; rfl
  clear h1 h2
  go_enter Tryz.func158, Tryz.ntmps158
  go_wp2_with fail
  refine (uh HCT _).mono ?_
  rintro e w1 ⟨rfl, hw1⟩
  have hw2 := hw1.symm
  subst hw2
  clear hw1
  go_wp2_with fail
  refine (uh HPL _).mono ?_
  rintro e w1 ⟨rfl, hw1⟩
  have hw2 := hw1.symm
  subst hw2
  clear hw1
  go_wp2_with fail
  rw [uh HX]
  refine (uh HOP _ _).mono ?_
  rintro e w3 ⟨rfl, g3, hpb3⟩
  have HB3 := hide ((((Below.refl _ w).alloc (ler _) _).alloc (by simp) _).trans (g3.below (n := w.heap.size) (by simp; omega) (fun k e => by omega)))
  have HE3 := hide ((uh HE).below ((uh HB3).mono (by omega)))
  have HZ3 := hide (Blk.grownS ((Blk.new w 89 #[.int .i64 0, .string ⟨#[]⟩, .bool false, .int .i64 0, .bool false, .slice none 0 0]).alloc _) g3 (by simp))
  have p3 : w3.cell? ⟨w.heap.size + 1, 3, none⟩ = some (.int .i64 op) := Blk.cell hpb3 3 rfl
  have HP3 := hide hpb3
  clear g3 HOP hpb3
  go_wp2_with fail
  refine (uh HWI _ (uh HE3)).mono ?_
  rintro e w4 ⟨rfl, hw4⟩
  have hw5 := hw4.symm
  subst hw5
  clear hw4
  go_wp2_with fail
  refine (uh HWD _ (uh HE3)).mono ?_
  rintro e w5 ⟨rfl, hx, b5⟩
  have hx1 : (x != 0) = true := by simpa using hx
  have HXX := hide hx
  have HBZ := hide (Blk.below (uh HZ3) b5 (Blk.lt (uh HZ3)))
  have HBB := hide ((uh HB3).trans (b5.mono (uh HB3).size))
  obtain ⟨z0, z1, z2, z3, z4, z5⟩ := cel6 (uh HBZ)
  have zf : ∀ j, w5.frozen? ⟨w.heap.size, j, none⟩ = false := fun j => (uh HBZ).frozen j
  clear b5 hx p3 HWD HWI
  go_wp2
  refine bodyPost_ret (v := .tuple #[.agg #[.int .i64 0, .string ⟨#[]⟩, .bool false, .int .i64 0, .bool false, .slice none 0 0], .int .i64 x]) (results_part2 rfl _ _ w.heap.size _ _ _ _ _ _ _ rfl rfl (blk_T6 (uh HBZ) (.int .i64 0) (.string ⟨#[]⟩) (.bool false) (.int .i64 0) (.bool false) (.slice none 0 0))) rfl ?_
  exact ⟨rfl, uh HXX, below_T6 (uh HBB) _ _ _ _ _ _⟩
 ·rw [h1] at HCT
  simp only [if_true] at HCT
  obtain ⟨u, hu⟩ : ∃ u, u = l.drop 1 := ⟨_, rfl⟩
  have hul : u.length ≤ 4096 := by rw [hu]; simp; omega
  rw [← hu] at HCT h2 h3
  have HPU := hide (fun W => parameter_any (BA u) W (by simp; omega))
  simp only [BA_list] at HPU
  have t2 : (BA u).toList.isEmpty = false := by
   rw [BA_toList]
   cases u with
   | nil => exact absurd rfl h2
   | cons _ _ => rfl
  obtain ⟨pu, hpu⟩ : ∃ x, x = parN u := ⟨_, rfl⟩
  rw [← hpu] at HPU h3
  have h3' : ((pu : Int) == (u.length : Int)) = false := by rw [beq_eq_false_iff_ne]; omega
  clear hu h1 h2 h3 hpu
  go_enter Tryz.func158, Tryz.ntmps158
  go_wp2_with fail
  refine (uh HCT _).mono ?_
  rintro e w1 ⟨rfl, hw1⟩
  have hw2 := hw1.symm
  subst hw2
  clear hw1
  go_wp2_with fail
  refine (uh HPU _).mono ?_
  rintro e w1 ⟨rfl, hw1⟩
  have hw2 := hw1.symm
  subst hw2
  clear hw1
  go_wp2_with fail
  refine (uh HPL _).mono ?_
  rintro e w1 ⟨rfl, hw1⟩
  have hw2 := hw1.symm
  subst hw2
  clear hw1
  go_wp2_with fail
  rw [uh HX]
  refine (uh HOP _ _).mono ?_
  rintro e w3 ⟨rfl, g3, hpb3⟩
  have HB3 := hide ((((Below.refl _ w).alloc (ler _) _).alloc (by simp) _).trans (g3.below (n := w.heap.size) (by simp; omega) (fun k e => by omega)))
  have HE3 := hide ((uh HE).below ((uh HB3).mono (by omega)))
  have HZ3 := hide (Blk.grownS ((Blk.new w 89 #[.int .i64 0, .string ⟨#[]⟩, .bool false, .int .i64 0, .bool false, .slice none 0 0]).alloc _) g3 (by simp))
  have p3 : w3.cell? ⟨w.heap.size + 1, 3, none⟩ = some (.int .i64 op) := Blk.cell hpb3 3 rfl
  have HP3 := hide hpb3
  clear g3 HOP hpb3
  go_wp2_with fail
  refine (uh HWI _ (uh HE3)).mono ?_
  rintro e w4 ⟨rfl, hw4⟩
  have hw5 := hw4.symm
  subst hw5
  clear hw4
  go_wp2_with fail
  refine (uh HWD _ (uh HE3)).mono ?_
  rintro e w5 ⟨rfl, hx, b5⟩
  have hx1 : (x != 0) = true := by simpa using hx
  have HXX := hide hx
  have HBZ := hide (Blk.below (uh HZ3) b5 (Blk.lt (uh HZ3)))
  have HBB := hide ((uh HB3).trans (b5.mono (uh HB3).size))
  obtain ⟨z0, z1, z2, z3, z4, z5⟩ := cel6 (uh HBZ)
  have zf : ∀ j, w5.frozen? ⟨w.heap.size, j, none⟩ = false := fun j => (uh HBZ).frozen j
  clear b5 hx p3 HWD HWI
  go_wp2
  refine bodyPost_ret (v := .tuple #[.agg #[.int .i64 0, .string ⟨#[]⟩, .bool false, .int .i64 0, .bool false, .slice none 0 0], .int .i64 x]) (results_part2 rfl _ _ w.heap.size _ _ _ _ _ _ _ rfl rfl (blk_T6 (uh HBZ) (.int .i64 0) (.string ⟨#[]⟩) (.bool false) (.int .i64 0) (.bool false) (.slice none 0 0))) rfl ?_
  exact ⟨rfl, uh HXX, below_T6 (uh HBB) _ _ _ _ _ _⟩
theorem brace_ok {N : Nat} (hW : WordN N) (k : Nat) (l : List UInt8) (w : World) (hl : l.length ≤ 4096) (hnot : ¬ (l.head? = some 35 ∧ l.drop 1 ≠ [] ∧ parN (l.drop 1) = (l.drop 1).length)) (he : WEnv w) (hk : k < 6) (hlN : l.length ≤ N) (hp : parN l ≠ 0) (hw : parN l ≠ l.length) (op : Int) (t : List UInt8) (hs : sgnL (colonL (l.drop (parN l))) (behindL (l.drop (parN l))) = some (op, t)) (ps : List Prt) (hR : (rdC true (withinW k op) t).word = .ok ps) :
 Calls Tryz.prog 158 #[.int .i64 (k : Int), .string (BA l)] w fun e w' => BrEnd (.ok (.mk 2 (l.take (parN l)) false op (colonL (l.drop (parN l))) ps)) w e w' := by
 have HPL := hide (fun W => parameter_any (BA l) W (by simp; omega))
 simp only [BA_list] at HPL
 have hle := par_le l
 have htl : t.length ≤ l.length := by
  have h1 := sgn_len hs
  have h2 := behind_len (l.drop (parN l))
  have h3 : (l.drop (parN l)).length ≤ l.length := by simp
  omega
 obtain ⟨n, hn⟩ : ∃ n, n = parN l := ⟨_, rfl⟩
 rw [← hn] at HPL hp hw hs hle
 rw [← hn]
 have hp0 : ((n : Int) == 0) = false := by rw [beq_eq_false_iff_ne]; omega
 have hw0 : ((n : Int) == (l.length : Int)) = false := by rw [beq_eq_false_iff_ne]; omega
 have hn1 : (n : Int) ≤ (l.length : Int) := by omega
 have h2w := he.two
 have HX : Hid ((BA l).extract n l.length = BA (l.drop n)) := hide (by have := extract_end (BA l) n; simpa using this)
 have HXT : Hid ((BA l).extract 0 n = BA (l.take n)) := hide (by have := extract_take (BA l) 0 n; simpa using this)
 obtain ⟨cl, hcl⟩ : ∃ x, x = colonL (l.drop n) := ⟨_, rfl⟩
 have HOP : Hid (∀ o1 t0, Calls Tryz.prog 162 #[.pointer (some ⟨w.heap.size + 1, 0, none⟩), .string (BA (l.drop n))] ((w.alloc o1).alloc (.cells #[.int .i64 2, t0, .bool false, .int .i64 0, .bool false, .slice none 0 0] 89)) fun e w' => e = .returned (.tuple #[.string (BA t), .bool true]) ∧ GrownS ((w.alloc o1).alloc (.cells #[.int .i64 2, t0, .bool false, .int .i64 0, .bool false, .slice none 0 0] 89)) w' (fun k => k = w.heap.size + 1) ∧ PBk w' (w.heap.size + 1) (.int .i64 2) t0 (.bool false) (.slice none 0 0) op cl) := hide (fun o1 t0 => by
  have hb : PBk ((w.alloc o1).alloc (.cells #[.int .i64 2, t0, .bool false, .int .i64 0, .bool false, .slice none 0 0] 89)) (w.heap.size + 1) (.int .i64 2) t0 (.bool false) (.slice none 0 0) 0 false := by
   have := Blk.new (w.alloc o1) 89 #[.int .i64 2, t0, .bool false, .int .i64 0, .bool false, .slice none 0 0]
   rwa [show (w.alloc o1).heap.size = w.heap.size + 1 by simp] at this
  refine (operation_any (l.drop n) (w.heap.size + 1) _ _ _ _ 0 false _ (he.below ((((Below.refl _ w).alloc (ler _) _).alloc (by simp) _).mono (by omega))) hb (by omega)).mono ?_
  intro e w' h
  unfold OpEnd at h
  rw [hs] at h
  rw [hcl]
  exact h)
 have HWI := hide (fun W (hE : WEnv W) => within_any k op W hE hk)
 have hwk : withinW k op < 6 := within_lt k op
 have HWD : Hid (∀ W, WEnv W → Calls Tryz.prog 121 #[.int .i64 ((withinW k op : Nat) : Int), .string (BA t)] W fun e w' => WEnd (rdC true (withinW k op) t).word W e w') := hide (fun W hE => hW (withinW k op) t W hE hwk (by omega) (by omega))
 rw [hR] at HWD
 have HE := hide he
 have HCL := hide hcl
 clear hp hw hs hn he hW hcl hR hwk htl hlN
 have hways : ((l.head? == some 35) = false) ∨ ((l.head? == some 35) = true ∧ l.drop 1 = []) ∨ ((l.head? == some 35) = true ∧ l.drop 1 ≠ [] ∧ parN (l.drop 1) ≠ (l.drop 1).length) := by
  by_cases h1 : l.head? = some 35
  ·by_cases h2 : l.drop 1 = []
   ·exact .inr (.inl ⟨by simpa using h1, h2⟩)
   ·exact .inr (.inr ⟨by simpa using h1, h2, fun h3 => hnot ⟨h1, h2, h3⟩⟩)
  ·exact .inl (by simpa using h1)
 have HCT : Hid (∀ W, Calls Tryz.prog 160 #[.string (BA l), .string ⟨#[35]⟩] W fun e w' => e = .returned (.tuple #[.string (BA (if (l.head? == some 35) then l.drop 1 else l)), .bool (l.head? == some 35)]) ∧ w' = W) := hide (fun W => by
  have := Tryz.strings_CutPrefix (BA l) ⟨#[35]⟩ W
  rw [show Lib.hasPrefix (BA l).data.toList (⟨#[35]⟩ : ByteArray).data.toList = (l.head? == some 35) from has35 l, show Lib.trimPrefix (BA l).data.toList (⟨#[35]⟩ : ByteArray).data.toList = (if (l.head? == some 35) then l.drop 1 else l) from by unfold Lib.trimPrefix; rw [has35]; rfl] at this
  exact this)
 clear hnot
 rcases hways with h1 | ⟨h1, h2⟩ | ⟨h1, h2, h3⟩
 ·rw [h1] at HCT
  simp only [Bool.false_eq_true, if_false] at HCT
  clear h1
  go_enter Tryz.func158, Tryz.ntmps158
  go_wp2_with fail
  refine (uh HCT _).mono ?_
  rintro e w1 ⟨rfl, hw1⟩
  have hw2 := hw1.symm
  subst hw2
  clear hw1
  go_wp2_with fail
  refine (uh HPL _).mono ?_
  rintro e w1 ⟨rfl, hw1⟩
  have hw2 := hw1.symm
  subst hw2
  clear hw1
  go_wp2_with fail
  rw [uh HX]
  refine (uh HOP _ _).mono ?_
  rintro e w3 ⟨rfl, g3, hpb3⟩
  have HB3 := hide ((((Below.refl _ w).alloc (ler _) _).alloc (by simp) _).trans (g3.below (n := w.heap.size) (by simp; omega) (fun k e => by omega)))
  have HE3 := hide ((uh HE).below ((uh HB3).mono (by omega)))
  have HZ3 := hide (Blk.grownS ((Blk.new w 89 #[.int .i64 0, .string ⟨#[]⟩, .bool false, .int .i64 0, .bool false, .slice none 0 0]).alloc _) g3 (by simp))
  have p3 : w3.cell? ⟨w.heap.size + 1, 3, none⟩ = some (.int .i64 op) := Blk.cell hpb3 3 rfl
  have HP3 := hide hpb3
  clear g3 HOP hpb3
  go_wp2_with fail
  refine (uh HWI _ (uh HE3)).mono ?_
  rintro e w4 ⟨rfl, hw4⟩
  have hw5 := hw4.symm
  subst hw5
  clear hw4
  go_wp2_with fail
  refine (uh HWD _ (uh HE3)).mono ?_
  rintro e w5 ⟨v, rfl, b5, hv⟩
  obtain ⟨va, vc, rfl, _⟩ := hv.len
  have hP5 := Blk.below (uh HP3) b5 (Blk.lt (uh HP3))
  obtain ⟨q0, q1, q2, q3, q4, q5⟩ := cel6 hP5
  have qf : ∀ j, w5.frozen? ⟨w.heap.size + 1, j, none⟩ = false := fun j => hP5.frozen j
  have HBZ := hide (Blk.below (uh HZ3) b5 (Blk.lt (uh HZ3)))
  have HBB := hide ((uh HB3).trans (b5.mono (uh HB3).size))
  obtain ⟨z0, z1, z2, z3, z4, z5⟩ := cel6 (uh HBZ)
  have zf : ∀ j, w5.frozen? ⟨w.heap.size, j, none⟩ = false := fun j => (uh HBZ).frozen j
  have HV := hide hv
  have HB5 := hide b5
  have hlt5 : w.heap.size + 1 < w5.heap.size := by have h1 := Blk.lt (uh HP3); have := b5.size; omega
  have HL3 := hide (Blk.lt (uh HP3))
  clear b5 hv hP5 p3 HWD HWI
  go_wp2
  refine bodyPost_ret (v := .tuple #[.agg #[.int .i64 2, .string ((BA l).extract 0 n), .bool false, .int .i64 op, .bool cl, .slice va ps.length vc], .int .i64 0]) (results_part2 rfl _ _ w.heap.size _ _ _ _ _ _ _ rfl rfl (blk_T6 (Blk.other (uh HBZ) (a := ⟨w.heap.size + 1, 5, none⟩) (by simp) _) (.int .i64 2) (.string ((BA l).extract 0 n)) (.bool false) (.int .i64 op) (.bool cl) (.slice va ps.length vc))) rfl ?_
  rw [uh HXT, ← uh HCL]
  have hgs : GrownS w5 (T6 (w5.setCell ⟨w.heap.size + 1, 5, none⟩ (.slice va ps.length vc)) w.heap.size 0 (.int .i64 2) (.string (BA (l.take n))) (.bool false) (.int .i64 op) (.bool cl) (.slice va ps.length vc)) (fun k => k = w.heap.size ∨ k = w.heap.size + 1) := ((sbg _ _ _ _).mono (fun k _ e => .inr e)).trans ((T6_grown ..).mono (fun k _ e => .inl e))
  refine ⟨_, rfl, (uh HBB).trans (hgs.below (uh HBB).size (fun k e => by omega)), ?_⟩
  exact (uh HV).kept (fun k hk => hgs.block k hk.2 (fun e => by have := uh HL3; omega)) (fun k hk => ⟨by have := (uh HB3).size; omega, lle hk.2 hgs.size⟩)
 ·rw [h1, h2] at HCT
  simp only [if_true] at HCT
  have t2 : (BA []).toList.isEmpty = true := by rw [BA_toList]; rfl
  clear h1 h2
  go_enter Tryz.func158, Tryz.ntmps158
  go_wp2_with fail
  refine (uh HCT _).mono ?_
  rintro e w1 ⟨rfl, hw1⟩
  have hw2 := hw1.symm
  subst hw2
  clear hw1
  go_wp2_with fail
  refine (uh HPL _).mono ?_
  rintro e w1 ⟨rfl, hw1⟩
  have hw2 := hw1.symm
  subst hw2
  clear hw1
  go_wp2_with fail
  rw [uh HX]
  refine (uh HOP _ _).mono ?_
  rintro e w3 ⟨rfl, g3, hpb3⟩
  have HB3 := hide ((((Below.refl _ w).alloc (ler _) _).alloc (by simp) _).trans (g3.below (n := w.heap.size) (by simp; omega) (fun k e => by omega)))
  have HE3 := hide ((uh HE).below ((uh HB3).mono (by omega)))
  have HZ3 := hide (Blk.grownS ((Blk.new w 89 #[.int .i64 0, .string ⟨#[]⟩, .bool false, .int .i64 0, .bool false, .slice none 0 0]).alloc _) g3 (by simp))
  have p3 : w3.cell? ⟨w.heap.size + 1, 3, none⟩ = some (.int .i64 op) := Blk.cell hpb3 3 rfl
  have HP3 := hide hpb3
  clear g3 HOP hpb3
  go_wp2_with fail
  refine (uh HWI _ (uh HE3)).mono ?_
  rintro e w4 ⟨rfl, hw4⟩
  have hw5 := hw4.symm
  subst hw5
  clear hw4
  go_wp2_with fail
  refine (uh HWD _ (uh HE3)).mono ?_
  rintro e w5 ⟨v, rfl, b5, hv⟩
  obtain ⟨va, vc, rfl, _⟩ := hv.len
  have hP5 := Blk.below (uh HP3) b5 (Blk.lt (uh HP3))
  obtain ⟨q0, q1, q2, q3, q4, q5⟩ := cel6 hP5
  have qf : ∀ j, w5.frozen? ⟨w.heap.size + 1, j, none⟩ = false := fun j => hP5.frozen j
  have HBZ := hide (Blk.below (uh HZ3) b5 (Blk.lt (uh HZ3)))
  have HBB := hide ((uh HB3).trans (b5.mono (uh HB3).size))
  obtain ⟨z0, z1, z2, z3, z4, z5⟩ := cel6 (uh HBZ)
  have zf : ∀ j, w5.frozen? ⟨w.heap.size, j, none⟩ = false := fun j => (uh HBZ).frozen j
  have HV := hide hv
  have HB5 := hide b5
  have hlt5 : w.heap.size + 1 < w5.heap.size := by have h1 := Blk.lt (uh HP3); have := b5.size; omega
  have HL3 := hide (Blk.lt (uh HP3))
  clear b5 hv hP5 p3 HWD HWI
  go_wp2
  refine bodyPost_ret (v := .tuple #[.agg #[.int .i64 2, .string ((BA l).extract 0 n), .bool false, .int .i64 op, .bool cl, .slice va ps.length vc], .int .i64 0]) (results_part2 rfl _ _ w.heap.size _ _ _ _ _ _ _ rfl rfl (blk_T6 (Blk.other (uh HBZ) (a := ⟨w.heap.size + 1, 5, none⟩) (by simp) _) (.int .i64 2) (.string ((BA l).extract 0 n)) (.bool false) (.int .i64 op) (.bool cl) (.slice va ps.length vc))) rfl ?_
  rw [uh HXT, ← uh HCL]
  have hgs : GrownS w5 (T6 (w5.setCell ⟨w.heap.size + 1, 5, none⟩ (.slice va ps.length vc)) w.heap.size 0 (.int .i64 2) (.string (BA (l.take n))) (.bool false) (.int .i64 op) (.bool cl) (.slice va ps.length vc)) (fun k => k = w.heap.size ∨ k = w.heap.size + 1) := ((sbg _ _ _ _).mono (fun k _ e => .inr e)).trans ((T6_grown ..).mono (fun k _ e => .inl e))
  refine ⟨_, rfl, (uh HBB).trans (hgs.below (uh HBB).size (fun k e => by omega)), ?_⟩
  exact (uh HV).kept (fun k hk => hgs.block k hk.2 (fun e => by have := uh HL3; omega)) (fun k hk => ⟨by have := (uh HB3).size; omega, lle hk.2 hgs.size⟩)
 ·rw [h1] at HCT
  simp only [if_true] at HCT
  obtain ⟨u, hu⟩ : ∃ u, u = l.drop 1 := ⟨_, rfl⟩
  have hul : u.length ≤ 4096 := by rw [hu]; simp; omega
  rw [← hu] at HCT h2 h3
  have HPU := hide (fun W => parameter_any (BA u) W (by simp; omega))
  simp only [BA_list] at HPU
  have t2 : (BA u).toList.isEmpty = false := by
   rw [BA_toList]
   cases u with
   | nil => exact absurd rfl h2
   | cons _ _ => rfl
  obtain ⟨pu, hpu⟩ : ∃ x, x = parN u := ⟨_, rfl⟩
  rw [← hpu] at HPU h3
  have h3' : ((pu : Int) == (u.length : Int)) = false := by rw [beq_eq_false_iff_ne]; omega
  clear hu h1 h2 h3 hpu
  go_enter Tryz.func158, Tryz.ntmps158
  go_wp2_with fail
  refine (uh HCT _).mono ?_
  rintro e w1 ⟨rfl, hw1⟩
  have hw2 := hw1.symm
  subst hw2
  clear hw1
  go_wp2_with fail
  refine (uh HPU _).mono ?_
  rintro e w1 ⟨rfl, hw1⟩
  have hw2 := hw1.symm
  subst hw2
  clear hw1
  go_wp2_with fail
  refine (uh HPL _).mono ?_
  rintro e w1 ⟨rfl, hw1⟩
  have hw2 := hw1.symm
  subst hw2
  clear hw1
  go_wp2_with fail
  rw [uh HX]
  refine (uh HOP _ _).mono ?_
  rintro e w3 ⟨rfl, g3, hpb3⟩
  have HB3 := hide ((((Below.refl _ w).alloc (ler _) _).alloc (by simp) _).trans (g3.below (n := w.heap.size) (by simp; omega) (fun k e => by omega)))
  have HE3 := hide ((uh HE).below ((uh HB3).mono (by omega)))
  have HZ3 := hide (Blk.grownS ((Blk.new w 89 #[.int .i64 0, .string ⟨#[]⟩, .bool false, .int .i64 0, .bool false, .slice none 0 0]).alloc _) g3 (by simp))
  have p3 : w3.cell? ⟨w.heap.size + 1, 3, none⟩ = some (.int .i64 op) := Blk.cell hpb3 3 rfl
  have HP3 := hide hpb3
  clear g3 HOP hpb3
  go_wp2_with fail
  refine (uh HWI _ (uh HE3)).mono ?_
  rintro e w4 ⟨rfl, hw4⟩
  have hw5 := hw4.symm
  subst hw5
  clear hw4
  go_wp2_with fail
  refine (uh HWD _ (uh HE3)).mono ?_
  rintro e w5 ⟨v, rfl, b5, hv⟩
  obtain ⟨va, vc, rfl, _⟩ := hv.len
  have hP5 := Blk.below (uh HP3) b5 (Blk.lt (uh HP3))
  obtain ⟨q0, q1, q2, q3, q4, q5⟩ := cel6 hP5
  have qf : ∀ j, w5.frozen? ⟨w.heap.size + 1, j, none⟩ = false := fun j => hP5.frozen j
  have HBZ := hide (Blk.below (uh HZ3) b5 (Blk.lt (uh HZ3)))
  have HBB := hide ((uh HB3).trans (b5.mono (uh HB3).size))
  obtain ⟨z0, z1, z2, z3, z4, z5⟩ := cel6 (uh HBZ)
  have zf : ∀ j, w5.frozen? ⟨w.heap.size, j, none⟩ = false := fun j => (uh HBZ).frozen j
  have HV := hide hv
  have HB5 := hide b5
  have hlt5 : w.heap.size + 1 < w5.heap.size := by have h1 := Blk.lt (uh HP3); have := b5.size; omega
  have HL3 := hide (Blk.lt (uh HP3))
  clear b5 hv hP5 p3 HWD HWI
  go_wp2
  refine bodyPost_ret (v := .tuple #[.agg #[.int .i64 2, .string ((BA l).extract 0 n), .bool false, .int .i64 op, .bool cl, .slice va ps.length vc], .int .i64 0]) (results_part2 rfl _ _ w.heap.size _ _ _ _ _ _ _ rfl rfl (blk_T6 (Blk.other (uh HBZ) (a := ⟨w.heap.size + 1, 5, none⟩) (by simp) _) (.int .i64 2) (.string ((BA l).extract 0 n)) (.bool false) (.int .i64 op) (.bool cl) (.slice va ps.length vc))) rfl ?_
  rw [uh HXT, ← uh HCL]
  have hgs : GrownS w5 (T6 (w5.setCell ⟨w.heap.size + 1, 5, none⟩ (.slice va ps.length vc)) w.heap.size 0 (.int .i64 2) (.string (BA (l.take n))) (.bool false) (.int .i64 op) (.bool cl) (.slice va ps.length vc)) (fun k => k = w.heap.size ∨ k = w.heap.size + 1) := ((sbg _ _ _ _).mono (fun k _ e => .inr e)).trans ((T6_grown ..).mono (fun k _ e => .inl e))
  refine ⟨_, rfl, (uh HBB).trans (hgs.below (uh HBB).size (fun k e => by omega)), ?_⟩
  exact (uh HV).kept (fun k hk => hgs.block k hk.2 (fun e => by have := uh HL3; omega)) (fun k hk => ⟨by have := (uh HB3).size; omega, lle hk.2 hgs.size⟩)
theorem wbrace_any {N : Nat} (hW : WordN N) (k : Nat) (l : List UInt8) (w : World) (he : WEnv w) (hk : k < 6) (hlN : l.length ≤ N) (hl : l.length ≤ 4096) :
 Calls Tryz.prog 158 #[.int .i64 (k : Int), .string (BA l)] w fun e w' => BrEnd (brcL (rdC true) k l) w e w' := by
 unfold brcL
 split
 ·next h => exact brace_len k l w hl (by simp [h.1]) h.2.1 h.2.2
 next hnot =>
 split
 ·next h => exact brace_no k l w hl hnot h
 next h0 =>
 split
 ·next h => exact brace_whole k l w hl hnot h0 h
 next h1 =>
 cases hs : sgnL (colonL (l.drop (parN l))) (behindL (l.drop (parN l))) with
 | none => exact brace_bad k l w hl hnot he h0 h1 hs
 | some x =>
   obtain ⟨op, t⟩ := x
   cases hR : (rdC true (withinW k op) t).word with
   | err x =>
     simp only [hR]
     exact brace_err hW k l w hl hnot he hk hlN h0 h1 op t hs x hR
   | ok ps =>
     simp only [hR]
     exact brace_ok hW k l w hl hnot he hk hlN h0 h1 op t hs ps hR
def LgEnd (r : Bd) (k : Nat) (w : World) (b : Nat) (X : Nat → Prop) (ps : List Prt) (e : Ending) (w' : World) : Prop :=
 match r with
 | .ok p => e = .returned (.int .i64 0) ∧ Adds w b X (addP ps (setQ (allW k) p)) w'
 | .err x => e = .returned (.int .i64 x) ∧ x ≠ 0 ∧ GrownS w w' X
theorem run_quote (l : List UInt8) : ∃ kk t, runP l = .mk kk t false 0 false [] := by
 unfold runP
 split
 ·exact ⟨_, _, rfl⟩
 ·exact ⟨_, _, rfl⟩
theorem brc_quote {rd : Nat → List UInt8 → Rd} {w : Nat} {l : List UInt8} {p : Prt} (h : brcL rd w l = .ok p) : p.quote = false := by
 unfold brcL at h
 repeat' split at h
 all_goals first
  | (cases h; done)
  | (cases h; rfl)
theorem long_run (k : Nat) (u : List UInt8) (w : World) (b : Nat) (X : Nat → Prop) (ps : List Prt) (he : WEnv w) (hk : k < 6) (h : LSt w b X ps) (hul : u.length ≤ 4096) (hu2 : 2 ≤ u.length) (hr : Room ps (u.length + 2)) (h40 : u.head? = some 40) :
 Calls Tryz.prog 154 #[.int .i64 (k : Int), .string (BA u), (.func (Fn.func 138) #[.pointer (some ⟨b, 0, none⟩)] #[])] w fun e w' => LgEnd (.ok (runP (u.drop 1).dropLast)) k w b X ps e w' := by
 obtain ⟨n, hn⟩ : ∃ n, u.length = n + 1 := ⟨u.length - 1, by omega⟩
 have hwn : IntKind.i64.wrap ((u.length : Int) - 1) = (n : Int) := by rw [IntKind.wrap_i64]; omega
 have hn1 : (1 : Int) ≤ (n : Int) := by omega
 have hnb : (n : Int) ≤ 5000 := by omega
 have hn2 : (n : Int) ≤ (u.length : Int) := by omega
 have h2w := he.two
 have HX : Hid ((BA u).extract 1 n = BA (u.drop 1).dropLast) := hide (by have := ext_mid (BA u); rw [BA_size, hn, Nat.add_sub_cancel] at this; exact this)
 obtain ⟨m, hm⟩ : ∃ m, m = (u.drop 1).dropLast := ⟨_, rfl⟩
 have hml : m.length ≤ u.length - 2 := by rw [hm]; exact mid_len u
 rw [← hm] at HX
 have hb0 : Below w.heap.size w (w.alloc (.cells #[.int .i64 0, .string ⟨#[]⟩, .bool false, .int .i64 0, .bool false, .slice none 0 0] 89)) := (Below.refl _ w).alloc (ler _) _
 have HXhi := hide h.hi
 have hbw := h.lt
 match u, hu2 with
 | c0 :: u', _ =>
 have hsz0 : (0 : Int) < ((u'.length : Int) + 1) := by omega
 have hcc : c0 = 40 := by simpa using h40
 have hc40 : (((BA (c0 :: u'))[0]'(by simp)).toNat : Int) = 40 := by show (c0.toNat : Int) = 40; rw [hcc]; rfl
 have HRUN := hide (fun W => run_any (BA m) W (by simp only [BA_size, List.length_cons] at *; omega))
 simp only [BA_list] at HRUN
 obtain ⟨kk, t, hrun⟩ := run_quote m
 have htl := run_text m
 rw [← hm, hrun]
 rw [hrun] at HRUN htl
 have htl : t.length ≤ m.length := htl
 simp only [List.length_cons] at hul hml
 have HRUN' : Hid (∀ W, Calls Tryz.prog 157 #[.string (BA m)] W fun e w' => e = .returned (.agg #[.int .i64 kk, .string (BA t), .bool false, .int .i64 0, .bool false, .slice none 0 0]) ∧ Below W.heap.size W w') := HRUN
 clear hrun hm h40 hcc HRUN
 go_enter Tryz.func154, Tryz.ntmps154
 go_wp2_with fail
 rw [uh HX]
 refine (uh HRUN' _).mono ?_
 rintro e w1 ⟨rfl, b1⟩
 have HZ1 := hide (Blk.below (Blk.new w 89 #[.int .i64 0, .string ⟨#[]⟩, .bool false, .int .i64 0, .bool false, .slice none 0 0]) b1 (by simp))
 have HB1 := hide (hb0.trans (b1.mono (by simp)))
 obtain ⟨y0, y1, y2, y3, y4, y5⟩ := cel6 (uh HZ1)
 have yf : ∀ j, w1.frozen? ⟨w.heap.size, j, none⟩ = false := fun j => (uh HZ1).frozen j
 go_upto_region 9 with fail
 obtain ⟨w2, hw2⟩ : ∃ x, x = ((((((w1.setCell ⟨w.heap.size, 0, none⟩ (.int .i64 kk)).setCell ⟨w.heap.size, 1, none⟩ (.string (BA t))).setCell ⟨w.heap.size, 2, none⟩ (.bool false)).setCell ⟨w.heap.size, 3, none⟩ (.int .i64 0)).setCell ⟨w.heap.size, 4, none⟩ (.bool false)).setCell ⟨w.heap.size, 5, none⟩ (.slice none 0 0)) := ⟨_, rfl⟩
 have HT : Hid (GrownS w1 w2 (fun k => k = w.heap.size) ∧ Blk w2 w.heap.size 89 #[.int .i64 kk, .string (BA t), .bool false, .int .i64 0, .bool false, (.slice none 0 0)]) := hide (by rw [hw2]; exact ⟨T6_grown w1 w.heap.size 0 (.int .i64 kk) (.string (BA t)) (.bool false) (.int .i64 0) (.bool false) (.slice none 0 0), blk_T6 (uh HZ1) _ _ _ _ _ _⟩)
 rw [← hw2]
 clear hw2 y0 y1 y2 y3 y4 y5 yf
 have HB2 : Hid (Below w.heap.size w w2) := hide ((uh HB1).trans ((uh HT).1.below (uh HB1).size (fun k e => by omega)))
 have HBT : Hid (Below w.heap.size w (w2.setCell ⟨w.heap.size, 2, none⟩ (.bool (allW k)))) := hide ((uh HB2).setCell (p := ⟨w.heap.size, 2, none⟩) (ler _) _)
 have r2 : w2.cell? ⟨5, k * 4 + 2, none⟩ = some (.bool (allW k)) := (he.below ((uh HB2).mono (by omega))).r2 k hk
 obtain ⟨q0, q1, q2, q3, q4, q5⟩ := cel6 (uh HT).2
 have qf : w2.frozen? ⟨w.heap.size, 2, none⟩ = false := (uh HT).2.frozen 2
 have HAD : Hid (Calls Tryz.prog 138 #[.pointer (some ⟨b, 0, none⟩), .agg #[.int .i64 kk, .string (BA t), .bool (allW k), .int .i64 0, .bool false, (.slice none 0 0)]] (w2.setCell ⟨w.heap.size, 2, none⟩ (.bool (allW k))) fun e w' => e = .returned (.tuple #[]) ∧ Adds w b X (addP ps (.mk kk t (allW k) 0 false [])) w') := hide (by
  refine (ladd_any _ b X (fun _ => False) ps _ (.mk kk t (allW k) 0 false []) (h.below (uh HBT)) ⟨_, rfl, ?_⟩ ?_ (by have := hr.1; simp only [List.length_cons] at this; omega) (by have := hr.2; simp only [List.length_cons] at this; show tlen ps + List.length t ≤ _; omega)).mono (fun e w' ⟨h1, h3⟩ => ⟨h1, Adds.of_below (uh HBT) h3⟩)
  ·exact wat_nil _ _ _ _
  ·exact fun _ h => h.elim)
 clear b1 he h hr
 go_wp2_with fail
 refine (uh HAD).mono ?_
 rintro e w9 ⟨rfl, a9⟩
 go_wp2
 go_ret
 exact ⟨rfl, a9⟩
theorem long_brc {N : Nat} (hW : WordN N) (k : Nat) (u : List UInt8) (w : World) (b : Nat) (X : Nat → Prop) (ps : List Prt) (he : WEnv w) (hk : k < 6) (h : LSt w b X ps) (hul : u.length ≤ 4096) (hu2 : 2 ≤ u.length) (hr : Room ps (u.length + 2)) (huN : u.length ≤ N) (h40 : u.head? ≠ some 40) :
 Calls Tryz.prog 154 #[.int .i64 (k : Int), .string (BA u), (.func (Fn.func 138) #[.pointer (some ⟨b, 0, none⟩)] #[])] w fun e w' => LgEnd (brcL (rdC true) k (u.drop 1).dropLast) k w b X ps e w' := by
 obtain ⟨n, hn⟩ : ∃ n, u.length = n + 1 := ⟨u.length - 1, by omega⟩
 have hwn : IntKind.i64.wrap ((u.length : Int) - 1) = (n : Int) := by rw [IntKind.wrap_i64]; omega
 have hn1 : (1 : Int) ≤ (n : Int) := by omega
 have hnb : (n : Int) ≤ 5000 := by omega
 have hn2 : (n : Int) ≤ (u.length : Int) := by omega
 have h2w := he.two
 have HX : Hid ((BA u).extract 1 n = BA (u.drop 1).dropLast) := hide (by have := ext_mid (BA u); rw [BA_size, hn, Nat.add_sub_cancel] at this; exact this)
 obtain ⟨m, hm⟩ : ∃ m, m = (u.drop 1).dropLast := ⟨_, rfl⟩
 have hml : m.length ≤ u.length - 2 := by rw [hm]; exact mid_len u
 rw [← hm] at HX
 have hb0 : Below w.heap.size w (w.alloc (.cells #[.int .i64 0, .string ⟨#[]⟩, .bool false, .int .i64 0, .bool false, .slice none 0 0] 89)) := (Below.refl _ w).alloc (ler _) _
 have HXhi := hide h.hi
 have hbw := h.lt
 match u, hu2 with
 | c0 :: u', _ =>
 have hsz0 : (0 : Int) < ((u'.length : Int) + 1) := by omega
 have hc40 : ((((BA (c0 :: u'))[0]'(by simp)).toNat : Int) == 40) = false := by
  show ((c0.toNat : Int) == 40) = false
  rw [beq_eq_false_iff_ne]
  intro e
  exact h40 (by simp [UInt8.toNat_inj.1 (show c0.toNat = (40 : UInt8).toNat by show c0.toNat = 40; omega)])
 simp only [List.length_cons] at hul hml huN
 have HBR := hide (fun W (hE : WEnv W) => wbrace_any hW k m W hE hk (by omega) (by omega))
 rw [← hm]
 have hqt : ∀ p, brcL (rdC true) k m = .ok p → p.quote = false ∧ p.text.length ≤ m.length := fun p hp => ⟨brc_quote hp, brc_text hp⟩
 obtain ⟨R, hR⟩ : ∃ R, R = brcL (rdC true) k m := ⟨_, rfl⟩
 rw [← hR] at HBR hqt ⊢
 clear hR hm h40 hW
 cases R with
 | err x =>
   have HBR' : Hid (∀ W, WEnv W → Calls Tryz.prog 158 _ W fun e w' => e = .returned (.tuple #[.agg #[.int .i64 0, .string ⟨#[]⟩, .bool false, .int .i64 0, .bool false, .slice none 0 0], .int .i64 x]) ∧ x ≠ 0 ∧ Below W.heap.size W w') := HBR
   have HE0 := hide (he.below (hb0.mono (by omega)))
   clear HBR hqt
   go_enter Tryz.func154, Tryz.ntmps154
   go_wp2_with fail
   rw [uh HX]
   refine (uh HBR' _ (uh HE0)).mono ?_
   rintro e w1 ⟨rfl, hx, b1⟩
   have hx1 : (x != 0) = true := by simpa using hx
   have HXX := hide hx
   have HZ1 := hide (Blk.below (Blk.new w 89 #[.int .i64 0, .string ⟨#[]⟩, .bool false, .int .i64 0, .bool false, .slice none 0 0]) b1 (by simp))
   have HB1 := hide (hb0.trans (b1.mono (by simp)))
   obtain ⟨y0, y1, y2, y3, y4, y5⟩ := cel6 (uh HZ1)
   have yf : ∀ j, w1.frozen? ⟨w.heap.size, j, none⟩ = false := fun j => (uh HZ1).frozen j
   clear b1 hx
   go_wp2
   go_ret
   exact ⟨rfl, uh HXX, gsb (((uh HB1).trans ((T6_grown w1 w.heap.size 0 (.int .i64 0) (.string ⟨#[]⟩) (.bool false) (.int .i64 0) (.bool false) (.slice none 0 0)).below (uh HB1).size (fun k e => by omega))))⟩
 | ok p =>
   have HBR' : Hid (∀ W, WEnv W → Calls Tryz.prog 158 _ W fun e w' => ∃ v, e = .returned (.tuple #[.agg #[.int .i64 p.kind, .string (BA p.text), .bool p.quote, .int .i64 p.op, .bool p.colon, v], .int .i64 0]) ∧ Below W.heap.size W w' ∧ WAt w' (fun k => W.heap.size ≤ k ∧ k < w'.heap.size) v p.sub) := HBR
   obtain ⟨hq, htl⟩ := hqt p rfl
   clear HBR hqt
   obtain ⟨kk, t, qq, oo, cc, ss⟩ := p
   simp only [Prt.kind, Prt.text, Prt.quote, Prt.op, Prt.colon] at HBR'
   have hq : qq = false := hq
   subst hq
   have htl : t.length ≤ m.length := htl
   have HE0 := hide (he.below (hb0.mono (by omega)))
   go_enter Tryz.func154, Tryz.ntmps154
   go_wp2_with fail
   rw [uh HX]
   refine (uh HBR' _ (uh HE0)).mono ?_
   rintro e w1 ⟨v, rfl, b1, hv⟩
   have hv : WAt w1 (fun k => (w.alloc (.cells #[.int .i64 0, .string ⟨#[]⟩, .bool false, .int .i64 0, .bool false, .slice none 0 0] 89)).heap.size ≤ k ∧ k < w1.heap.size) v ss := hv
   obtain ⟨va, vc, rfl, _⟩ := hv.len
   have HZ1 := hide (Blk.below (Blk.new w 89 #[.int .i64 0, .string ⟨#[]⟩, .bool false, .int .i64 0, .bool false, .slice none 0 0]) b1 (by simp))
   have HB1 := hide (hb0.trans (b1.mono (by simp)))
   obtain ⟨y0, y1, y2, y3, y4, y5⟩ := cel6 (uh HZ1)
   have yf : ∀ j, w1.frozen? ⟨w.heap.size, j, none⟩ = false := fun j => (uh HZ1).frozen j
   go_upto_region 9 with fail
   obtain ⟨w2, hw2⟩ : ∃ x, x = ((((((w1.setCell ⟨w.heap.size, 0, none⟩ (.int .i64 kk)).setCell ⟨w.heap.size, 1, none⟩ (.string (BA t))).setCell ⟨w.heap.size, 2, none⟩ (.bool false)).setCell ⟨w.heap.size, 3, none⟩ (.int .i64 oo)).setCell ⟨w.heap.size, 4, none⟩ (.bool cc)).setCell ⟨w.heap.size, 5, none⟩ (.slice va ss.length vc)) := ⟨_, rfl⟩
   have HT : Hid (GrownS w1 w2 (fun k => k = w.heap.size) ∧ Blk w2 w.heap.size 89 #[.int .i64 kk, .string (BA t), .bool false, .int .i64 oo, .bool cc, (.slice va ss.length vc)]) := hide (by rw [hw2]; exact ⟨T6_grown w1 w.heap.size 0 (.int .i64 kk) (.string (BA t)) (.bool false) (.int .i64 oo) (.bool cc) (.slice va ss.length vc), blk_T6 (uh HZ1) _ _ _ _ _ _⟩)
   rw [← hw2]
   clear hw2 y0 y1 y2 y3 y4 y5 yf
   have HB2 : Hid (Below w.heap.size w w2) := hide ((uh HB1).trans ((uh HT).1.below (uh HB1).size (fun k e => by omega)))
   have HBT : Hid (Below w.heap.size w (w2.setCell ⟨w.heap.size, 2, none⟩ (.bool (allW k)))) := hide ((uh HB2).setCell (p := ⟨w.heap.size, 2, none⟩) (ler _) _)
   have r2 : w2.cell? ⟨5, k * 4 + 2, none⟩ = some (.bool (allW k)) := (he.below ((uh HB2).mono (by omega))).r2 k hk
   obtain ⟨q0, q1, q2, q3, q4, q5⟩ := cel6 (uh HT).2
   have qf : w2.frozen? ⟨w.heap.size, 2, none⟩ = false := (uh HT).2.frozen 2
   have HAD : Hid (Calls Tryz.prog 138 #[.pointer (some ⟨b, 0, none⟩), .agg #[.int .i64 kk, .string (BA t), .bool (allW k), .int .i64 oo, .bool cc, (.slice va ss.length vc)]] (w2.setCell ⟨w.heap.size, 2, none⟩ (.bool (allW k))) fun e w' => e = .returned (.tuple #[]) ∧ Adds w b X (addP ps (.mk kk t (allW k) oo cc ss)) w') := hide (by
    refine (ladd_any _ b X (fun k => w.heap.size + 1 ≤ k ∧ k < w1.heap.size) ps _ (.mk kk t (allW k) oo cc ss) (h.below (uh HBT)) ⟨_, rfl, ?_⟩ ?_ (by have := hr.1; simp only [List.length_cons] at this; omega) (by have := hr.2; simp only [List.length_cons] at this; show tlen ps + List.length t ≤ _; omega)).mono (fun e w' ⟨h1, h3⟩ => ⟨h1, Adds.of_below (uh HBT) h3⟩)
    ·refine (hv.kept (fun k hk => ?_) (fun k hk => ⟨by simpa using hk.1, hk.2⟩))
     have hk1 : w.heap.size + 1 ≤ k := by simpa using hk.1
     rw [Below.heap_setCell _ _ _ k (by show k ≠ w.heap.size; omega)]
     exact (uh HT).1.block k hk.2 (by omega)
    ·exact fun k hk => ⟨by omega, lle hk.2 (by have := (uh HT).1.size; simpa using this), fun e => by have := uh HXhi k e; omega⟩)
   clear b1 he h hr
   go_wp2_with fail
   refine (uh HAD).mono ?_
   rintro e w9 ⟨rfl, a9⟩
   go_wp2
   go_ret
   exact ⟨rfl, a9⟩
theorem long_any {N : Nat} (hW : WordN N) (k : Nat) (u : List UInt8) (w : World) (b : Nat) (X : Nat → Prop) (ps : List Prt) (he : WEnv w) (hk : k < 6) (h : LSt w b X ps) (hul : u.length ≤ 4096) (hu2 : 2 ≤ u.length) (hr : Room ps (u.length + 2)) (huN : u.length ≤ N) :
 Calls Tryz.prog 154 #[.int .i64 (k : Int), .string (BA u), (.func (Fn.func 138) #[.pointer (some ⟨b, 0, none⟩)] #[])] w fun e w' => LgEnd (lngL (rdC true) k u) k w b X ps e w' := by
 unfold lngL
 split
 ·next h40 => exact long_run k u w b X ps he hk h hul hu2 hr h40
 ·next h40 => exact long_brc hW k u w b X ps he hk h hul hu2 hr huN h40
end Go.Proofs.YtojjfdobilkknaaGreatDoor

/- The parser: what begins with what.; What the lexer's tokens are to the parser: few, with texts and bodies that are no longer than the script.; The parser, without memory: a line takes up a token at least. -/
import Derived.Test.YtojjfdobilkknaaGreatDoorM30
import Derived.Maps.OwnSet
import Derived.Test.YtojjfdobilkknaaGreatDoorM09
set_option maxRecDepth 20000
set_option maxHeartbeats 4000000
namespace Go.Proofs.YtojjfdobilkknaaGreatDoor
open Go.RowKit Go.Maps
theorem wpList_insert_in6 {H : Type} {P : Program} (w : World) {ops : Array Oper} {rest : List Oper} {o : Oper} {a : Act} {Q : Exit → Act → World → Prop} (hg : o.guard = none) (m x v : Operand) (t : TypeId) (hop : o.op = Op.insert t m x v)
 (k e : TypeId) (K : Keyed P k) (ht : P.underlying t = some (.map k e)) (R : Value → Option (DataW H × List MemPlace)) (b n : Nat) (D : DataW H)
 (hm : a.eval m = .map (some b)) (hown : w.ownsMap P k R b n D) (hn : n < maxLen) (key val : Value) (kl : Lit) (hx : a.eval x = key) (hv : a.eval v = val) (hkey : keyOf P k key = some kl)
 (d : DataW H) (ps : List MemPlace) (hval : R val = some (d, ps))
 (hK : ∀ w', w'.ownsMap P k R b (n + 1) (D.put kl d) → w.mapTurned w' b → wpList P ops Q rest (a.put o.dst undef) w') :
 wpList P ops Q (o :: rest) a w := by
 refine wpList_plain hg fun K' hK' => ?_
 obtain ⟨w', hrun, r1, r2⟩ := hown.store K ht hn hkey hval
 unfold Oper.wp
 simp [execOp, hop, hm, hx, hv, hrun, Result.andThen]
 exact hK' _ _ (hK w' r1 r2)
def bgL : List (ByteArray × Value) := [(⟨#[40]⟩, .func (.func 32) #[] #[]), (⟨#[123]⟩, .func (.func 33) #[] #[]), (⟨#[105, 102]⟩, .func (.func 34) #[] #[]), (⟨#[119, 104, 105, 108, 101]⟩, .func (.func 35) #[] #[]), (⟨#[117, 110, 116, 105, 108]⟩, .func (.func 36) #[] #[]), (⟨#[102, 111, 114]⟩, .func (.func 37) #[] #[]), (⟨#[99, 97, 115, 101]⟩, .func (.func 38) #[] #[])]
def Dl6 (i : Nat) : DataW Value := (bgL.take i).foldl (fun D p => D.put (.string p.1.data.toList) (.held p.2)) (.map [])
theorem Dl6_succ {i : Nat} {p : ByteArray × Value} (h : bgL[i]? = some p) : Dl6 (i + 1) = (Dl6 i).put (.string p.1.data.toList) (.held p.2) := by
 unfold Dl6
 obtain ⟨hi, rfl⟩ := List.getElem?_eq_some_iff.1 h
 rw [← List.take_append_getElem hi, List.foldl_append]
 rfl
theorem wpList_insert_L6 {w0 w : World} {ops : Array Oper} {rest : List Oper} {o : Oper} {a : Act} {Q : Exit → Act → World → Prop} (b i : Nat)
 (h : w.ownsMap Tryz.prog 9 selfV b i (Dl6 i) ∧ Below w0.heap.size w0 w) (hb : w0.heap.size ≤ b) (hg : o.guard = none) (m x v : Operand) (t e : TypeId) (hop : o.op = Op.insert t m x v)
 (ht : Tryz.prog.underlying t = some (.map 9 e)) (hm : a.eval m = .map (some b)) (hn : i < maxLen) (key : ByteArray) (val : Value) (hL : bgL[i]? = some (key, val)) (hx : a.eval x = .string key) (hv : a.eval v = val) (hkey : key.size ≤ maxLen)
 (hK : ∀ w', (w'.ownsMap Tryz.prog 9 selfV b (i + 1) (Dl6 (i + 1)) ∧ Below w0.heap.size w0 w') → wpList Tryz.prog ops Q rest (a.put o.dst undef) w') :
 wpList Tryz.prog ops Q (o :: rest) a w :=
 wpList_insert_in6 w hg m x v t hop 9 e (string_keyed Tryz.underlying9) ht selfV b i (Dl6 i) hm h.1 hn _ val _ hx hv (WideMaps.keyOf_string_mk Tryz.underlying9 hkey) (.held val) [] rfl (fun w' h1 h2 => hK w' ⟨by rw [Dl6_succ hL]; exact h1, h.2.grown h2.grown h.2.size (by intro k hk; cases hk; exact hb)⟩)
theorem dl6_map : ∀ i, IsMap (Dl6 i) := fun i => by
 unfold Dl6
 generalize bgL.take i = L
 have : ∀ (L : List (ByteArray × Value)) (D : DataW Value), IsMap D → IsMap (L.foldl (fun D p => D.put (.string p.1.data.toList) (.held p.2)) D) := by
  intro L
  induction L with
  | nil => intro D h; exact h
  | cons p L ih => intro D h; exact ih _ (h.put _ _)
 exact this L _ ⟨[], rfl⟩
theorem bg_step {i : Nat} {k : ByteArray} {v : Value} (h : bgL[i]? = some (k, v)) (t : List UInt8) (z : DataW Value) : (Dl6 (i + 1)).atKey (.string t) z = if t = k.data.toList then .held v else (Dl6 i).atKey (.string t) z := by
 rw [Dl6_succ h]
 split
 ·rename_i e
  rw [e]
  exact atKey_put_same (dl6_map i) (show WideAt.IsKeyLit (.string _) from trivial) _ _
 ·rename_i e
  exact atKey_put_other (fun e2 => e (by injection e2)) _ _
theorem bg_at (t : List UInt8) : (Dl6 7).atKey (.string t) (.held .nilFunc) = .held (bgV t) := by
 rw [bg_step (i := 6) rfl, bg_step (i := 5) rfl, bg_step (i := 4) rfl, bg_step (i := 3) rfl, bg_step (i := 2) rfl, bg_step (i := 1) rfl, bg_step (i := 0) rfl, show (Dl6 0).atKey (.string t) (.held .nilFunc) = .held .nilFunc from rfl]
 show (if t = [99, 97, 115, 101] then _ else if t = [102, 111, 114] then _ else if t = [117, 110, 116, 105, 108] then _ else if t = [119, 104, 105, 108, 101] then _ else if t = [105, 102] then _ else if t = [123] then _ else if t = [40] then _ else _) = _
 unfold bgV
 by_cases h1 : t = [40]
 ·subst h1; rfl
 by_cases h2 : t = [123]
 ·subst h2; rfl
 by_cases h3 : t = [105, 102]
 ·subst h3; rfl
 by_cases h4 : t = [119, 104, 105, 108, 101]
 ·subst h4; rfl
 by_cases h5 : t = [117, 110, 116, 105, 108]
 ·subst h5; rfl
 by_cases h6 : t = [102, 111, 114]
 ·subst h6; rfl
 by_cases h7 : t = [99, 97, 115, 101]
 ·subst h7; rfl
 simp only [if_neg h1, if_neg h2, if_neg h3, if_neg h4, if_neg h5, if_neg h6, if_neg h7]
theorem pbeginnings_any (w : World) : Calls Tryz.prog 9 #[] w fun e w' => e = .returned (.map (some w.heap.size)) ∧ w'.ownsMap Tryz.prog 9 selfV w.heap.size 7 (Dl6 7) ∧ Below w.heap.size w w' := by
 have hmm := @run_makeMap Tryz.prog
 have h0 : (w.alloc (.map #[] 0)).ownsMap Tryz.prog 9 selfV w.heap.size 0 (Dl6 0) ∧ Below w.heap.size w (w.alloc (.map #[] 0)) := ⟨World.ownsMap_made w Tryz.prog 9 selfV, (Below.refl _ w).alloc (ler _) _⟩
 go_enter Tryz.func9, Tryz.ntmps9
 go_wp2_with (refine wpList_insert_L6 (w0 := w) w.heap.size _ (by assumption) (ler _) rfl _ _ _ _ _ rfl (by first | exact Tryz.underlying42) rfl (by decide) _ _ rfl rfl rfl (by decide) ?_; intro w1 hw1)
 obtain ⟨ho, hj⟩ := hw1
 go_ret
 exact ⟨rfl, ho, hj⟩
end Go.Proofs.YtojjfdobilkknaaGreatDoor
namespace Go.Proofs.YtojjfdobilkknaaGreatDoor
structure Bok (n : Nat) (st : LS) : Prop where
 rest : st.rest.length ≤ n
 body : ∀ t ∈ st.toks, t.body.size ≤ n
theorem takeL_len : ∀ (f : Nat) (tabs : Bool) (en l acc b r : List UInt8), takeL f tabs en l acc = some (b, r) → b.length ≤ acc.length + l.length
 | 0, _, _, _, _, _, _, h => by cases h
 | _ + 1, _, _, [], _, _, _, h => by cases h
 | f + 1, tabs, en, c :: l, acc, b, r, h => by
   have htw : ((c :: l).takeWhile (fun x => x != 10)).length + ((c :: l).dropWhile (fun x => x != 10)).length = (c :: l).length := by rw [← List.length_append, List.takeWhile_append_dropWhile]
   have hL : (if tabs then Lib.trimLeftB ((c :: l).takeWhile (fun x => x != 10)) 9 else (c :: l).takeWhile (fun x => x != 10)).length ≤ ((c :: l).takeWhile (fun x => x != 10)).length := by
    split
    ·exact trim_len _ 9
    ·exact ler _
   rw [takeL_hit (L := if tabs then Lib.trimLeftB ((c :: l).takeWhile (fun x => x != 10)) 9 else (c :: l).takeWhile (fun x => x != 10)) (by simp) rfl] at h
   generalize (if tabs then Lib.trimLeftB ((c :: l).takeWhile (fun x => x != 10)) 9 else (c :: l).takeWhile (fun x => x != 10)) = L at h hL
   by_cases he : L = en
   ·rw [if_pos he] at h
    injection h with h
    injection h with h1 h2
    rw [← h1]
    omega
   ·rw [if_neg he] at h
    cases hd : (c :: l).dropWhile (fun x => x != 10) with
    | nil =>
      rw [hd] at h
      cases f <;> cases h
    | cons y z =>
      have h3 := takeL_len f tabs en _ _ b r h
      rw [hd] at h3 htw
      simp only [List.length_append, List.length_cons, List.length_nil, List.drop_succ_cons, List.drop_zero] at h3 htw
      simp only [List.length_cons]
      omega
theorem Bok.fail {n : Nat} {st : LS} (h : Bok n st) (e x : Int) : Bok n (st.fail e x) := by
 unfold LS.fail
 split
 ·exact ⟨h.rest, h.body⟩
 ·exact h
theorem Bok.add {n : Nat} {st : LS} (h : Bok n st) (k : Int) (t : List UInt8) (p : Int) : Bok n (st.add k t p) := ⟨h.rest, fun u hu => by
 rcases List.mem_append.1 hu with hu | hu
 ·exact h.body u hu
 ·rw [List.mem_singleton] at hu
  rw [hu]
  exact Nat.zero_le _⟩
theorem mem_modify {α : Type} {l : List α} {i : Nat} {g : α → α} {u : α} (h : u ∈ l.modify i g) : u ∈ l ∨ ∃ t ∈ l, u = g t := by
 obtain ⟨k, hk⟩ := List.getElem?_of_mem h
 rw [List.getElem?_modify] at hk
 obtain ⟨t, ht, e⟩ := Option.map_eq_some_iff.1 hk
 have hm := List.mem_of_getElem? ht
 split at e
 ·exact .inr ⟨t, hm, e.symm⟩
 ·exact .inl (e ▸ hm)
theorem Bok.takeUp {n : Nat} {st : LS} (h : Bok n st) (x : Wt) : Bok n (takeUpL st x) := by
 unfold takeUpL
 split
 ·cases ht : takeL (st.rest.length + 1) x.tabs x.en st.rest [] with
  | none => exact Bok.fail (st := { st with rest := [] }) ⟨Nat.zero_le _, h.body⟩ _ _
  | some p =>
    obtain ⟨body, rest⟩ := p
    have h1 := takeL_len _ _ _ _ _ _ _ ht
    have h2 := (takeL_suf _ _ _ _ _ _ _ ht).length_le
    have h3 := h.rest
    simp only [List.length_nil, Nat.zero_add] at h1
    refine ⟨by show rest.length ≤ n; omega, fun u hu => ?_⟩
    rcases mem_modify hu with hu | ⟨t, _, rfl⟩
    ·exact h.body u hu
    ·show (BA body).size ≤ n
     exact lee h1 h3
 ·exact h
theorem Bok.newline {n : Nat} {st : LS} (h : Bok n st) (p : Int) : Bok n (newlineL st p) := by
 have hf : ∀ (ws : List Wt) (st : LS), Bok n st → Bok n (ws.foldl takeUpL st) := by
  intro ws
  induction ws with
  | nil => intro st h; exact h
  | cons w ws ih => intro st h; exact ih _ (h.takeUp w)
 have h1 := hf st.wait st h
 unfold newlineL
 simp only
 split
 ·exact Bok.add (st := { (st.wait.foldl takeUpL st) with wait := [] }) ⟨h1.rest, h1.body⟩ _ _ _
 ·exact h1
theorem Bok.await {n : Nat} {st : LS} (h : Bok n st) (w : List UInt8) : Bok n (awaitL st w) := by
 unfold awaitL
 split
 ·exact h
 ·split
  ·refine ⟨h.rest, fun u hu => ?_⟩
   rcases mem_modify hu with hu | ⟨t, ht, rfl⟩
   ·exact h.body u hu
   ·exact h.body t ht
  ·exact h
theorem Bok.word {n m : Nat} {st : LS} (h : Bok n st) : Bok n (wordTok m st) := by
 unfold wordTok
 simp only
 cases hw : wordL (st.rest.length + 1) st.rest with
 | err e b => exact ⟨h.rest, h.body⟩
 | ok r =>
   obtain ⟨t, ht⟩ := wordL_suf _ hw
   have hr : r.length ≤ n := by
    have h1 := h.rest
    rw [ht, List.length_append] at h1
    omega
   simp only
   split
   ·exact Bok.add (st := { st with rest := r }) ⟨hr, h.body⟩ _ _ _
   ·exact (Bok.await (st := { st with rest := r }) ⟨hr, h.body⟩ _).add _ _ _
theorem Bok.token {n m : Nat} {st : LS} (h : Bok n st) : Bok n (tokenL m st) := by
 unfold tokenL
 split
 ·exact h
 ·rename_i c r hr
  have h1 := h.rest
  rw [hr, List.length_cons] at h1
  simp only
  split
  ·exact Bok.newline (st := { st with rest := r }) ⟨by show r.length ≤ n; omega, h.body⟩ _
  ·split
   ·exact h.word
   ·refine Bok.add (st := { st with rest := (c :: r).drop (opL (c :: r)).length }) ⟨?_, h.body⟩ _ _ _
    show ((c :: r).drop (opL (c :: r)).length).length ≤ n
    rw [List.length_drop, List.length_cons]
    omega
theorem Bok.loop {n m : Nat} : ∀ (f : Nat) (st : LS), Bok n st → Bok n (loopL m f st)
 | 0, st, h => h
 | f + 1, st, h => by
   have h1 : Bok n { st with rest := skL (st.rest.length + 1) st.rest } := ⟨lee (skL_len _ _) h.rest, h.body⟩
   unfold loopL
   split
   ·simp only
    split
    ·exact h1
    ·exact Bok.loop f _ h1.token
   ·exact h
theorem lexL_bodies (l : List UInt8) (hl : l.length ≤ 4096) : ∀ t ∈ (lexL l).1, t.body.size ≤ 4096 := by
 have h1 : Bok 4096 (loopL l.length (l.length + 1) ⟨l, [], [], 0, 0⟩) := Bok.loop _ _ ⟨hl, fun t ht => by cases ht⟩
 unfold lexL
 rw [if_neg (by omega)]
 generalize loopL l.length (l.length + 1) ⟨l, [], [], 0, 0⟩ = st at h1
 simp only
 cases st.wait with
 | nil => exact h1.body
 | cons x _ => exact (h1.fail 12 (st.posOf x.tok)).body
theorem stands_len {l : List UInt8} : ∀ (ts : List (Int × ByteArray)) (e : Nat), Stands l e ts → ts.length + e ≤ l.length + (if ts = [] then e else 0) ∧ ∀ t ∈ ts, t.2.size ≤ l.length
 | [], e, _ => ⟨by simp, fun t ht => by cases ht⟩
 | t :: ts, e, h => by
   obtain ⟨⟨p, h1, h2, h3, h4, _⟩, h6⟩ := h
   have h7 := stands_len ts (endOf t) h6
   have hsz : 0 < t.2.size := by
    rcases Nat.eq_zero_or_pos t.2.size with h8 | h8
    ·exact absurd (List.eq_nil_of_length_eq_zero (by rw [data_len]; exact h8)) h3
    ·exact h8
   have he : endOf t = p + t.2.size := by unfold endOf; rw [h1]; simp
   refine ⟨?_, fun u hu => ?_⟩
   ·rw [if_neg (List.cons_ne_nil _ _), List.length_cons]
    have h9 := h7.1
    rw [he] at h9
    split at h9
    ·rename_i e0
     rw [e0]
     simp
     omega
    ·omega
   ·rcases List.mem_cons.1 hu with rfl | hu
    ·omega
    ·exact h7.2 u hu
theorem lexL_few (l : List UInt8) (hl : l.length ≤ 4096) : (lexL l).1.length ≤ 4096 ∧ ∀ t ∈ (lexL l).1, t.text.size ≤ 4096 ∧ t.body.size ≤ 4096 := by
 obtain ⟨h1, _⟩ := lexL_stands l hl
 have h2 := stands_len _ 0 h1
 have h4 : (pts (lexL l).1).length ≤ l.length := by
  by_cases h5 : pts (lexL l).1 = []
  ·rw [h5]
   exact Nat.zero_le _
  ·have h6 := h2.1
   rw [if_neg h5] at h6
   omega
 have h3 : (pts (lexL l).1).length = (lexL l).1.length := by unfold pts; simp
 refine ⟨by omega, fun t ht => ⟨?_, lexL_bodies l hl t ht⟩⟩
 ·have := h2.2 (t.pos, t.text) (List.mem_map.2 ⟨t, ht, rfl⟩)
  exact lee this hl
end Go.Proofs.YtojjfdobilkknaaGreatDoor
namespace Go.Proofs.YtojjfdobilkknaaGreatDoor
open Pz
theorem fail_lt {s : Pz} (hw : s.we = 0) (hne : s.toks ≠ []) (e p : Int) : (s.fail e p).toks.length < s.toks.length := by
 unfold Pz.fail
 rw [if_pos hw]
 exact List.length_pos_iff.2 hne
theorem misfit_lt {s : Pz} (hw : s.we = 0) (hne : s.toks ≠ []) : s.misfit.toks.length < s.toks.length := by
 unfold Pz.misfit
 split
 ·exact fail_lt hw hne _ _
 ·split
  ·exact fail_lt hw hne _ _
  ·exact fail_lt hw hne _ _
theorem redir_lt {s : Pz} (hne : s.toks ≠ []) : s.redir.2.toks.length < s.toks.length := by
 have h := List.length_pos_iff.2 hne
 have := redir_less (s := s) (n := s.toks.length - 1) (by omega)
 omega
theorem simple_lt {s : Pz} (hw : s.we = 0) (hne : s.toks ≠ []) : s.simple.2.toks.length < s.toks.length := by
 have hp := List.length_pos_iff.2 hne
 unfold Pz.simple
 split
 ·rename_i hsw
  show (Pz.simpleN s.toks.length ⟨[], [], []⟩ s).2.toks.length < _
  obtain ⟨m, hm⟩ : ∃ m, s.toks.length = m + 1 := ⟨s.toks.length - 1, by omega⟩
  have hl : s.toks.length < s.toks.length + 1 := Nat.lt_succ_self _
  rw [hm]
  unfold Pz.simpleN
  split
  ·exact Nat.lt_of_le_of_lt (kp_simpleN _ _ _).1 (by rw [← hm]; exact redir_lt hne)
  ·rename_i hnr
   split
   ·have h1 := (kp_parts s.take 0 (BA (s.next.text.data.toList.drop ((letN s.next.text.data.toList).length + 1))) s.next.pos).1
    exact Nat.lt_of_le_of_lt (kp_simpleN _ _ _).1 (Nat.lt_of_le_of_lt h1 (by rw [← hm]; exact take_lt hne))
   ·split
    ·have h1 := word_lt s
     exact Nat.lt_of_le_of_lt (kp_simpleN _ _ _).1 (by omega)
    ·rename_i hnw
     rw [Bool.or_eq_true] at hsw
     rcases hsw with e | e
     ·exact absurd e hnw
     ·exact absurd e hnr
 ·exact misfit_lt hw hne
theorem name_lt {s : Pz} (hne : s.toks ≠ []) : s.name.2.toks.length < s.toks.length := by
 unfold Pz.name
 simp only
 split
 ·exact take_lt hne
 ·have h1 := (kp_misfit s).1
  have h2 := take_less s.misfit
  have h3 := List.length_pos_iff.2 hne
  omega
theorem withinS_lt {r : Pz → Cm × Pz} {s : Pz} (hw : s.we = 0) (hne : s.toks ≠ []) (h : (r { s with deep := s.deep + 1 }).2.toks.length < s.toks.length) : (Pz.within r s).2.toks.length < s.toks.length := by
 unfold Pz.within
 split
 ·exact fail_lt hw hne _ _
 ·exact h
theorem begin_lt {lst : Pz → Cm × Pz} (h : KR lst) {t : ByteArray} {r : Pz → Cm × Pz} (hr : Pz.beginOf lst t = some r) {s : Pz} (hne : s.toks ≠ []) : (r s).2.toks.length < s.toks.length := by
 have ht := take_lt hne
 unfold Pz.beginOf at hr
 have hen : ∀ (k : Int) (c : ByteArray), (Pz.enclosed lst k c s).2.toks.length < s.toks.length := fun k c => Nat.lt_of_le_of_lt ((h s.take).trans (kp_want _ _)).1 ht
 have hlo : ∀ k : Int, (Pz.loop lst k s).2.toks.length < s.toks.length := fun k => Nat.lt_of_le_of_lt ((h s.take).trans (kr_doGroup h _)).1 ht
 split at hr
 ·injection hr with hr; subst hr; exact hen _ _
 ·split at hr
  ·injection hr with hr; subst hr; exact hen _ _
  ·split at hr
   ·injection hr with hr
    subst hr
    have hp := List.length_pos_iff.2 hne
    obtain ⟨m, hm⟩ : ∃ m, s.toks.length = m + 1 := ⟨s.toks.length - 1, by omega⟩
    have h1 : Kp s.take (lst ((lst s.take).2.want kThen)).2 := ((h _).trans (kp_want _ _)).trans (h _)
    show (Pz.branchesN lst s.toks.length s).2.toks.length < s.toks.length
    rw [hm]
    rw [hm] at ht
    unfold Pz.branchesN
    simp only
    split
    ·exact Nat.lt_of_le_of_lt (h1.trans (kr_branchesN h m _)).1 ht
    ·split
     ·exact Nat.lt_of_le_of_lt (((h1.trans (kp_take _)).trans (h _)).trans (kp_want _ _)).1 ht
     ·exact Nat.lt_of_le_of_lt (h1.trans (kp_want _ _)).1 ht
   ·split at hr
    ·injection hr with hr; subst hr; exact hlo _
    ·split at hr
     ·injection hr with hr; subst hr; exact hlo _
     ·split at hr
      ·injection hr with hr
       subst hr
       have h1 : Kp s.take ((s.take.name.2.skips semi).gap) := ((kp_name _).trans (kp_skips _ _)).trans (kp_gap _)
       unfold Pz.each
       simp only
       split
       ·refine Nat.lt_of_le_of_lt (Kp.trans ?_ (kr_doGroup h _)).1 ht
        have h2 := (h1.trans (kp_take _)).trans (kp_words _)
        split
        ·exact h2.trans (kp_endS _)
        ·exact h2.trans (kp_misfit _)
       ·exact Nat.lt_of_le_of_lt (h1.trans (kr_doGroup h _)).1 ht
      ·split at hr
       ·injection hr with hr
        subst hr
        exact Nat.lt_of_le_of_lt (((((kp_word s.take).trans (kp_gap _)).trans (kp_want _ _)).trans (kp_gap _)).trans ((kp_itemsN h _ _).trans (kp_want _ _))).1 ht
       ·cases hr
theorem command_lt {lst : Pz → Cm × Pz} (h : KR lst) {s : Pz} (hw : s.we = 0) (hne : s.toks ≠ []) : (Pz.command lst s).2.toks.length < s.toks.length := by
 unfold Pz.command
 split
 ·rename_i hb
  unfold Pz.compound
  split
  ·exact misfit_lt hw hne
  ·rename_i r hr
   exact Nat.lt_of_le_of_lt (kp_redirs _).1 (withinS_lt hw hne (begin_lt h hr (s := { s with deep := s.deep + 1 }) hne))
 ·split
  ·exact misfit_lt hw hne
  ·split
   ·refine withinS_lt hw hne ?_
    have h1 := name_lt (s := { s with deep := s.deep + 1 }) hne
    exact Nat.lt_of_le_of_lt ((((kp_want _ kLp).trans (kp_want _ kRp)).trans (kp_gap _)).trans (kr_compound h _)).1 h1
   ·exact simple_lt hw hne
theorem line_lt {lst : Pz → Cm × Pz} (h : KR lst) {s : Pz} (hw : s.we = 0) (hne : s.toks ≠ []) : (Pz.line lst s).2.toks.length < s.toks.length := by
 have h1 : (Pz.pipeline lst s).2.toks.length < s.toks.length := by
  have h2 : (Pz.command lst (s.skips kNot)).2.toks.length < s.toks.length := by
   unfold Pz.skips
   split
   ·exact Nat.lt_of_le_of_lt (kr_command h _).1 (take_lt hne)
   ·exact command_lt h hw hne
  exact Nat.lt_of_le_of_lt (kp_pipesN h _ _).1 h2
 exact Nat.lt_of_le_of_lt (((kp_andOrN h _ _ _).trans (kp_lineN h _ _)).trans (kp_lineEnd _)).1 h1
end Go.Proofs.YtojjfdobilkknaaGreatDoor

/-
  strings.Builder's WriteString: what it leaves alone.
  Directories (stage 13): Print.
  Directories (stage 13): printDir, Print.
-/
import Derived.Test.YtghidcohgkajaaaGreatDoorM20
import Derived.Lib.ItoaLen
/- strings.Builder's WriteString: what it leaves alone. -/
namespace Go.Proofs.YtghidcohgkajaaaGreatDoor
open Go.RowKit Go.Maps

theorem check_k (B b : Nat) (bs : List Value) (w : World) (h : Lib.IsBuilder 108 5 B b bs w) :
    Calls Tryz.prog 176 #[.pointer (some ⟨b, 0, none⟩)] w fun e w' => e = .returned (.tuple #[]) ∧ Lib.BuilderAt 108 5 B b (.pointer (some ⟨b, 0, none⟩)) bs w' ∧ Below B w w' ∧ Lib.OthersKept 5 (some b) w w' := by
  rcases h with h | h
  · refine (check_fresh b w h.cell0 h.shape h.frozen0).mono ?_
    rintro e w' ⟨rfl, rfl⟩
    exact ⟨rfl, h.used _, (Below.refl B w).setCell (p := ⟨b, 0, none⟩) h.1 _, (Lib.OthersKept.refl 5 (some b) w).setCell _ rfl _⟩
  · refine (check_used b w h.cell0).mono ?_
    rintro e w' ⟨rfl, rfl⟩
    exact ⟨rfl, h, Below.refl B _, Lib.OthersKept.refl 5 (some b) _⟩
set_option maxRecDepth 20000 in
set_option maxHeartbeats 2000000 in
theorem bwrite_k (B b : Nat) (l : List UInt8) (s : ByteArray) (w : World) (h : Lib.IsBuilder 108 5 B b (Lib.byteCells l) w) (hlen : l.length + s.size ≤ 140737488355328) (hBw : B ≤ w.heap.size) :
    Calls Tryz.prog 149 #[.pointer (some ⟨b, 0, none⟩), .string s] w fun e w' => e = .returned (.tuple #[.int .i64 s.size, .nilIface]) ∧ Lib.IsBuilder 108 5 B b (Lib.byteCells (l ++ s.data.toList)) w' ∧ Below B w w' ∧ Lib.OthersKept 5 (some b) w w' := by
  obtain ⟨i0, hi, hz0, hz1, hz2⟩ := info2 info_byte
  have hcl : (Lib.byteCells l).length = l.length := by simp [Lib.byteCells]
  have HC := hide (check_k B b _ w h)
  clear h
  go_enter Tryz.func149, Tryz.ntmps149
  go_wp2_with fail
  refine (unhide HC).mono ?_
  rintro e w1 ⟨rfl, ⟨hB, v, hbk, hown, hne⟩, hb1, hk1⟩
  have c1 : w1.cell? ⟨b, 1, none⟩ = some v := by rw [Lib.cell_of_heap hbk]; rfl
  have HK1 := hide hk1
  clear HC hk1
  go_wp2_with (first
    | (at_builtin; refine Lib.wpList_append_own_string _ rfl (.tmp 12) (.tmp 13) 106 9 rfl B 5 i0 und_bytes und_str hi hz0 hz1 hz2 _ _ _ rfl hown s rfl ?c3 ?c4 ?c5 ?_)
    | go_in)
  case c3 => unfold maxLen; omega
  case c4 => omega
  case c5 => have := hb1.size; omega
  intro v' w2 hown' hgrow _
  have hlt : b < w1.heap.size := (Array.getElem?_eq_some_iff.1 hbk).1
  have hb2 : w2.heap[b]? = some (.cells #[.pointer (some ⟨b, 0, none⟩), v] 108 (0, 0)) := by
    rw [hgrow.block b hlt (fun e => hne e.symm)]
    exact hbk
  have d1 : w2.cell? ⟨b, 1, none⟩ = some v := by rw [Lib.cell_of_heap hb2]; rfl
  have f1 : w2.frozen? ⟨b, 1, none⟩ = false := Lib.frozen_of_heap hb2 1
  obtain ⟨ao, n', cap, rfl⟩ : ∃ ao n' cap, v' = .slice ao n' cap := by
    rcases hown'.2 with ⟨hv, _⟩ | ⟨g, cap, cur, hv, _⟩
    · exact ⟨_, _, _, hv⟩
    · exact ⟨_, _, _, hv⟩
  have hcs : Lib.byteCells l ++ Lib.strCells s = Lib.byteCells (l ++ s.data.toList) := by rw [byteCells_append]; rfl
  have HO := hide (show w2.ownsRow B 5 1 (.slice ao n' cap) (Lib.byteCells (l ++ s.data.toList)).length (Lib.byteCells (l ++ s.data.toList)) by
    rw [← hcs, List.length_append, Lib.strCells_length, hcl]; exact hown')
  have HKK : Hid (Lib.OthersKept 5 (some b) w w2) := hide ((unhide HK1).grown hgrow (fun g hg => by
    rcases hown.2 with ⟨hv, _⟩ | ⟨g', cap', cur, hv, _, hg', _⟩
    · rw [hv] at hg; cases hg
    · rw [hv] at hg
      injection hg with hg
      have hg : g' = g := hg
      subst hg
      exact ⟨cur, (0, 0), hg'⟩))
  have HG := hide hgrow
  have HW := hide hown
  have HH := hide hb2
  clear hcs hown' hgrow hown hb2 hcl hbk hne
  go_wp2
  go_ret2
  refine ⟨rfl, .inr ?_, ?_, ?_⟩
  · exact Lib.BuilderAt.put (T := 108) (e := 5) hB (unhide HH) (unhide HO) (by decide)
  · exact (hb1.grown (unhide HG) (by have := hb1.size; omega) (fun k hk => ((unhide HW).lt k hk).1)).setCell (p := ⟨b, 1, none⟩) hB _
  · exact (unhide HKK).setCell _ rfl _
theorem BA_add (a b : List UInt8) : BA a ++ BA b = BA (a ++ b) := by
  unfold BA
  apply ByteArray.ext
  simp
/-- While a tree is printed: b the builder, out what it has. -/
structure PrX (w0 W : World) (q : Nat) (Y : Nat → Prop) (s : NS) (nb n : Nat) (B : Bas) (out : List UInt8) : Prop where
  nd : NdX W q (Upto w0 Y) s nb n B
  bel : Below w0.heap.size w0 W
  bld : Lib.IsBuilder 108 5 w0.heap.size w0.heap.size (Lib.byteCells out) W
  le : ∀ k, w0.heap.size ≤ k → B.tn k
theorem PrX.below {w0 W W' : World} {q nb n : Nat} {B : Bas} {Y : Nat → Prop} {s : NS} {out : List UInt8} (H : PrX w0 W q Y s nb n B out) (hb : Below W.heap.size W W') : PrX w0 W' q Y s nb n B out := ⟨H.nd.below hb, H.bel.trans (hb.mono H.bel.size), bld_keep H.bld hb, H.le⟩
theorem kept_of_below {w w' : World} (h : Below w.heap.size w w') (b : Option Nat) : Lib.OthersKept 5 b w w' := fun k _ hk _ _ => (h.block k (Array.getElem?_eq_some_iff.1 hk).1).trans hk
theorem PrX.write {w0 W : World} {q nb n : Nat} {B : Bas} {Y : Nat → Prop} {s : NS} {out : List UInt8} (H : PrX w0 W q Y s nb n B out) (t : List UInt8) (hl : out.length + t.length ≤ 1000000000) : Calls Tryz.prog 149 #[.pointer (some ⟨w0.heap.size, 0, none⟩), .string (BA t)] W fun e w' => e = .returned (.tuple #[.int .i64 (t.length : Int), .nilIface]) ∧ Hid (PrX w0 w' q Y s nb n B (out ++ t) ∧ Lib.OthersKept 5 (some w0.heap.size) W w') :=
  (bwrite_k w0.heap.size w0.heap.size out (BA t) W H.bld (by rw [BA_size]; omega) H.bel.size).mono fun _ w' ⟨e1, e2, e3, e4⟩ => ⟨e1, hide ⟨⟨H.nd.grownS (S := fun k => w0.heap.size ≤ k) ⟨e3.os, e3.tape, e3.output, e3.size, fun k hk hn => e3.block k (Nat.lt_of_not_le hn)⟩ (fun k _ hk h => by have := hk.2; omega) (fun k hk => H.le k hk), H.bel.trans e3, e2, H.le⟩, e4⟩⟩
theorem TRow.kept {w w' : World} {v : Value} {l : List (List UInt8)} {b : Nat} (h : TRow w v l) (hk : Lib.OthersKept 5 (some b) w w') (hb : ∀ k, v.ownBlock = some k → k ≠ b) : TRow w' v l := by
  rcases h with h | ⟨g, cap, cs, rfl, h1, h2, h3, h4⟩
  · exact .inl h
  · exact .inr ⟨g, cap, cs, rfl, h1, h2, hk g _ h3 (fun e => hb g rfl (Option.some.inj e)) (fun c fz e => by injection e with _ e2 _; exact absurd e2 (by decide)), h4⟩

end Go.Proofs.YtghidcohgkajaaaGreatDoor

/- Directories (stage 13): Print. -/
namespace Go.Proofs.YtghidcohgkajaaaGreatDoor
open Go.RowKit Go.Maps

theorem below_grow (w : World) (n : Nat) (os : Array Obj) : Below w.heap.size w (Sort.grow (w.drewN n) os) :=
  ⟨rfl, rfl, rfl, by simp [Sort.grow], fun i hi => by
    show ((w.drewN n).heap ++ os)[i]? = _
    rw [Array.getElem?_append_left (by show i < w.heap.size; omega)]
    rfl⟩
/-- How many bytes a name is printed with, at most. -/
def KB (n : Nat) : Nat := 33 * n + 5000
/-- What printDir leaves, at a level. -/
def PDAt (w0 : World) (q : Nat) (Y : Nat → Prop) (s : NS) (nb n : Nat) (B : Bas) (m : Nat) : Prop := ∀ (W : World) (d : Int) (p out : List UInt8), PrX w0 W q Y s nb n B out → kdI s.T d = 2 → 1 ≤ nmI s.T d → cb s d ≤ m → p.length + 33 * cb s d ≤ 33 * n → out.length + KB n * cb s d ≤ 1000000000 → Calls Tryz.prog 73 #[.pointer (some ⟨q, 0, none⟩), .pointer (some ⟨w0.heap.size, 0, none⟩), .int .i64 d, .string (BA p)] W fun e w' => e = .returned (.tuple #[]) ∧ Hid (PrX w0 w' q Y s nb n B (out ++ prD s m d p) ∧ Lib.OthersKept 5 (some w0.heap.size) W w' ∧ (prD s m d p).length ≤ KB n * cb s d)
open Classical in
noncomputable def cst (s : NS) (i : Int) : Nat := 1 + if kdI s.T i = 2 then cb s i else 0
/-- A step of printing. -/
def PrTo (w0 W w' : World) (q : Nat) (Y : Nat → Prop) (s : NS) (nb n : Nat) (B : Bas) (out t : List UInt8) : Prop := PrX w0 w' q Y s nb n B (out ++ t) ∧ Lib.OthersKept 5 (some w0.heap.size) W w'
theorem PrTo.trans {w0 W w' w'' : World} {q nb n : Nat} {B : Bas} {Y : Nat → Prop} {s : NS} {out t u : List UInt8} (h : PrTo w0 W w' q Y s nb n B out t) (h2 : PrTo w0 w' w'' q Y s nb n B (out ++ t) u) : PrTo w0 W w'' q Y s nb n B out (t ++ u) := ⟨by rw [← List.append_assoc]; exact h2.1, h.2.trans h2.2⟩
set_option maxRecDepth 20000 in
set_option maxHeartbeats 4000000 in
theorem printNode_any {w0 W : World} {q nb n : Nat} {B : Bas} {m : Nat} {Y : Nat → Prop} {s : NS} (hpw : PowB B) (PD : PDAt w0 q Y s nb n B m) (i : Int) (p out : List UInt8) (H : PrX w0 W q Y s nb n B out) (hn : n ≤ 1000) (hi : 1 ≤ i ∧ i ≤ 1024) (hd : kdI s.T i = 2 → 1 ≤ nmI s.T i ∧ cb s i ≤ m ∧ p.length + 33 * cb s i ≤ 33 * n) (hp : p.length ≤ 33 * n) (ho : out.length + KB n * cst s i ≤ 1000000000) : Calls Tryz.prog 124 #[.pointer (some ⟨q, 0, none⟩), .pointer (some ⟨w0.heap.size, 0, none⟩), .int .i64 i, .string (BA p)] W fun e w' => e = .returned (.tuple #[]) ∧ Hid (PrTo w0 W w' q Y s nb n B out (prN (prD s m) s i p) ∧ (prN (prD s m) s i p).length ≤ KB n * cst s i) := by
  have hKB : KB n ≤ 38000 := by unfold KB; omega
  have hK1 : KB n * 1 ≤ KB n * cst s i := Nat.mul_le_mul_left _ (by unfold cst; omega)
  have hK2 : 33 * n + 5000 = KB n := rfl
  have hdm := dat_max H.nd.ok i
  have HW1 := hide (H.write p (by omega))
  have HKD : Hid (∀ w1, PrX w0 w1 q Y s nb n B (out ++ p) → ∃ t, w1.cell? ⟨q, 0, none⟩ = some (.pointer (some ⟨t, 0, none⟩)) ∧ Calls Tryz.prog 109 #[.pointer (some ⟨t, 0, none⟩), .int .i64 i] w1 (fun e w' => e = .returned (.int .i64 (kdI s.T i : Int)) ∧ w' = w1) ∧ Calls Tryz.prog 80 #[.pointer (some ⟨t, 0, none⟩), .int .i64 i] w1 (fun e w' => e = .returned (.int .i64 (sizeOfN (ndAt s.T i) : Int)) ∧ w' = w1)) := hide (fun w1 h => by
    obtain ⟨t, dm, M, X, HL, _⟩ := h.nd.at'
    exact ⟨t, HL.nds.cell 0 rfl, HL.kind i (by omega), HL.size i (by omega)⟩)
  have HBY : Hid (∀ w1, PrX w0 w1 q Y s nb n B (out ++ p) → Calls Tryz.prog 85 #[.pointer (some ⟨q, 0, none⟩), .int .i64 i] w1 fun e w' => e = .returned (.string (BA (datO (ndAt s.T i)))) ∧ Below w1.heap.size w1 w') := hide (fun w1 h => nbytes_any h.nd i (by omega))
  have HWR : Hid (∀ w1 t, PrX w0 w1 q Y s nb n B (out ++ p) → t.length ≤ 4800 → Calls Tryz.prog 149 #[.pointer (some ⟨w0.heap.size, 0, none⟩), .string (BA t)] w1 fun e w' => e = .returned (.tuple #[.int .i64 (t.length : Int), .nilIface]) ∧ Hid (PrTo w0 w1 w' q Y s nb n B (out ++ p) t)) := hide (fun w1 t h ht => (h.write t (by rw [List.length_append]; omega)).mono fun _ _ h => h)
  have hsz : sizeOfN (ndAt s.T i) ≤ 4096 := by
    have e : (datO (ndAt s.T i)).length = sizeOfN (ndAt s.T i) := by
      cases ndAt s.T i with
      | none => rfl
      | some x => exact datOf_len x
    omega
  have HPN : Hid (prN (prD s m) s i p = p ++ (if kdI s.T i = 2 then [47, 10] ++ prD s m i p else if kdI s.T i = 3 then [32, 45, 62, 32] ++ datO (ndAt s.T i) ++ [10] else if kdI s.T i = 1 then [32] ++ Lib.itoa (sizeOfN (ndAt s.T i) : Int) ++ [10] ++ datO (ndAt s.T i) ++ [10] else [])) := hide rfl
  obtain ⟨RR, hRR⟩ : ∃ RR, RR = prN (prD s m) s i p := ⟨_, rfl⟩
  rw [← hRR] at HPN ⊢
  obtain ⟨D, hD⟩ : ∃ D, D = datO (ndAt s.T i) := ⟨_, rfl⟩
  rw [← hD] at HPN HBY hdm
  obtain ⟨z, hz⟩ : ∃ z, z = sizeOfN (ndAt s.T i) := ⟨_, rfl⟩
  rw [← hz] at HPN HKD hsz
  have HIT := hide (Lib.itoa_length_le (z : Int) (by omega) (by omega))
  have HIA : Hid (∀ w1, PrX w0 w1 q Y s nb n B (out ++ p) → Calls Tryz.prog 150 #[.int .i64 (z : Int)] w1 fun e w' => e = .returned (.string (BA (Lib.itoa (z : Int)))) ∧ Below w1.heap.size w1 w') := hide (fun w1 h => (Tryz.strconv_Itoa (z : Int) (by omega) (by omega) w1 (h.nd.env.pow hpw)).mono fun _ w' ⟨e1, k, os, e2⟩ => ⟨e1, by rw [e2]; exact below_grow _ _ _⟩)
  obtain ⟨it, hit⟩ : ∃ it, it = Lib.itoa (z : Int) := ⟨_, rfl⟩
  rw [← hit] at HPN HIT HIA
  have hitl : it.length ≤ 21 := unhide HIT
  have HPD := hide PD
  have HD2 := hide hd
  have HO := hide ho
  have HCS : Hid (cst s i = 1 + if kdI s.T i = 2 then cb s i else 0) := hide rfl
  obtain ⟨k, hk⟩ : ∃ k, k = kdI s.T i := ⟨_, rfl⟩
  have HK := hide hk
  rw [← hk] at HKD HPN
  clear H PD hd ho hRR hD hz hit hk
  go_enter Tryz.func124, Tryz.ntmps124
  go_wp2_with fail
  refine (unhide HW1).mono ?_
  rintro e w1 ⟨rfl, HP1⟩
  obtain ⟨tt, c0, hkd, hszc⟩ := unhide HKD w1 (unhide HP1).1
  have HKC := hide hkd
  have HSC := hide hszc
  clear hkd hszc HW1 HKD
  by_cases h2 : k = 2
  · subst h2
    have HRR : Hid (RR = p ++ ([47, 10] ++ prD s m i p)) := hide (by rw [unhide HPN, if_pos rfl])
    have hcs : cst s i = 1 + cb s i := by rw [unhide HCS, if_pos (unhide HK).symm]
    have HC2 : Hid (KB n * cst s i = KB n + KB n * cb s i) := hide (by rw [hcs, Nat.mul_add, Nat.mul_one])
    have HW2 := hide (unhide HWR w1 [47, 10] (unhide HP1).1 (by decide))
    go_wp2_with fail
    refine (unhide HKC).mono ?_
    rintro e w2 ⟨rfl, hw2⟩
    subst hw2
    go_wp2_with fail
    refine (unhide HW2).mono ?_
    rintro e w3 ⟨rfl, HP3⟩
    have hd2 := unhide HD2 (unhide HK).symm
    have HP4 := hide (unhide HPD w3 i p (out ++ p ++ [47, 10]) (unhide HP3).1 (unhide HK).symm hd2.1 hd2.2.1 hd2.2.2 (by
      have := unhide HC2
      have := unhide HO
      simp only [List.length_append, List.length_cons, List.length_nil]
      omega))
    clear hd2 hcs
    go_wp2_with fail
    refine (unhide HP4).mono ?_
    rintro e w5 ⟨rfl, HP5⟩
    go_wp2_with fail
    refine bodyPost_end (res0 rfl _ _) rfl ⟨rfl, hide ⟨?_, ?_⟩⟩
    · rw [unhide HRR]
      exact PrTo.trans (t := p) (unhide HP1) (PrTo.trans (t := [47, 10]) (unhide HP3) ⟨(unhide HP5).1, (unhide HP5).2.1⟩)
    · rw [unhide HRR]
      have h5 := (unhide HP5).2.2
      have := unhide HC2
      simp only [List.length_append, List.length_cons, List.length_nil]
      omega
  · by_cases h3 : k = 3
    · subst h3
      have HRR : Hid (RR = p ++ ([32, 45, 62, 32] ++ D ++ [10])) := hide (by rw [unhide HPN, if_neg (by decide), if_pos rfl])
      have HBC := hide (unhide HBY w1 (unhide HP1).1)
      have hDl : D.length ≤ 10000 := by omega
      have hcat1 : (⟨#[32, 45, 62, 32]⟩ : ByteArray) ++ BA D = BA ([32, 45, 62, 32] ++ D) := BA_add [32, 45, 62, 32] D
      have hcat2 : BA ([32, 45, 62, 32] ++ D) ++ (⟨#[10]⟩ : ByteArray) = BA ([32, 45, 62, 32] ++ D ++ [10]) := BA_add _ [10]
      have HC1 := hide hcat1
      have HC2 := hide hcat2
      clear hcat1 hcat2
      go_wp2_with fail
      refine (unhide HKC).mono ?_
      rintro e w2 ⟨rfl, hw2⟩
      subst hw2
      go_wp2_with fail
      refine (unhide HBC).mono ?_
      rintro e w3 ⟨rfl, b3⟩
      have HP3 := hide ((unhide HP1).1.below b3)
      have HB3 := hide b3
      have HW4 := hide (unhide HWR w3 ([32, 45, 62, 32] ++ D ++ [10]) (unhide HP3) (by simp only [List.length_append, List.length_cons, List.length_nil]; omega))
      clear b3 c0
      go_wp2_with fail
      rw [unhide HC1, unhide HC2]
      refine (unhide HW4).mono ?_
      rintro e w5 ⟨rfl, HP5⟩
      go_wp2_with fail
      refine bodyPost_end (res0 rfl _ _) rfl ⟨rfl, hide ⟨?_, ?_⟩⟩
      · rw [unhide HRR]
        exact PrTo.trans (t := p) (unhide HP1) ⟨(unhide HP5).1, (kept_of_below (unhide HB3) _).trans (unhide HP5).2⟩
      · rw [unhide HRR]
        simp only [List.length_append, List.length_cons, List.length_nil]
        omega
    · by_cases h1 : k = 1
      · subst h1
        have HRR : Hid (RR = p ++ ([32] ++ it ++ [10] ++ D ++ [10])) := hide (by rw [unhide HPN, if_neg (by decide), if_neg (by decide), if_pos rfl])
        have HIC := hide (unhide HIA w1 (unhide HP1).1)
        have hDl : D.length ≤ 10000 := by omega
        have HC1 : Hid ((⟨#[32]⟩ : ByteArray) ++ BA it = BA ([32] ++ it)) := hide (BA_add [32] it)
        have HC2 : Hid (BA ([32] ++ it) ++ (⟨#[10]⟩ : ByteArray) = BA ([32] ++ it ++ [10])) := hide (BA_add _ [10])
        have HC3 : Hid (BA ([32] ++ it ++ [10]) ++ BA D = BA ([32] ++ it ++ [10] ++ D)) := hide (BA_add _ D)
        have HC4 : Hid (BA ([32] ++ it ++ [10] ++ D) ++ (⟨#[10]⟩ : ByteArray) = BA ([32] ++ it ++ [10] ++ D ++ [10])) := hide (BA_add _ [10])
        go_wp2_with fail
        refine (unhide HKC).mono ?_
        rintro e w2 ⟨rfl, hw2⟩
        have hw3 := hw2.symm
        subst hw3
        clear hw2
        go_wp2_with fail
        refine (unhide HSC).mono ?_
        rintro e w2 ⟨rfl, hw2⟩
        have hw3 := hw2.symm
        subst hw3
        clear hw2
        go_wp2_with fail
        refine (unhide HIC).mono ?_
        rintro e w3 ⟨rfl, b3⟩
        have HP3 := hide ((unhide HP1).1.below b3)
        have HB3 := hide b3
        have HBC := hide (unhide HBY w3 (unhide HP3))
        clear b3 c0
        go_wp2_with fail
        refine (unhide HBC).mono ?_
        rintro e w4 ⟨rfl, b4⟩
        have HP4 := hide ((unhide HP3).below b4)
        have HB4 := hide b4
        have HW4 := hide (unhide HWR w4 ([32] ++ it ++ [10] ++ D ++ [10]) (unhide HP4) (by simp only [List.length_append, List.length_cons, List.length_nil]; omega))
        clear b4
        go_wp2_with fail
        rw [unhide HC1, unhide HC2, unhide HC3, unhide HC4]
        refine (unhide HW4).mono ?_
        rintro e w5 ⟨rfl, HP5⟩
        go_wp2_with fail
        refine bodyPost_end (res0 rfl _ _) rfl ⟨rfl, hide ⟨?_, ?_⟩⟩
        · rw [unhide HRR]
          exact PrTo.trans (t := p) (unhide HP1) ⟨(unhide HP5).1, ((kept_of_below (unhide HB3) _).trans (kept_of_below (unhide HB4) _)).trans (unhide HP5).2⟩
        · rw [unhide HRR]
          simp only [List.length_append, List.length_cons, List.length_nil]
          omega
      · have g2 : (((k : Nat) : Int) == 2) = false := by rw [beq_eq_false_iff_ne]; omega
        have g3 : (((k : Nat) : Int) == 3) = false := by rw [beq_eq_false_iff_ne]; omega
        have g1 : (((k : Nat) : Int) == 1) = false := by rw [beq_eq_false_iff_ne]; omega
        have HRR : Hid (RR = p) := hide (by rw [unhide HPN, if_neg h2, if_neg h3, if_neg h1, List.append_nil])
        clear h1 h2 h3
        go_wp2_with fail
        refine (unhide HKC).mono ?_
        rintro e w2 ⟨rfl, hw2⟩
        subst hw2
        go_wp2_with fail
        refine bodyPost_end (res0 rfl _ _) rfl ⟨rfl, hide ⟨?_, ?_⟩⟩
        · rw [unhide HRR]; exact unhide HP1
        · rw [unhide HRR]; omega

end Go.Proofs.YtghidcohgkajaaaGreatDoor

/- Directories (stage 13): printDir, Print. -/
namespace Go.Proofs.YtghidcohgkajaaaGreatDoor
open Go.RowKit Go.Maps

theorem sum_take {α : Type} (f : α → Nat) {E : List α} {j : Nat} {x : α} (h : E[j]? = some x) : ((E.take (j + 1)).map f).sum = ((E.take j).map f).sum + f x := by
  rw [List.take_add_one, h]
  simp
theorem sum_take_le {α : Type} (f : α → Nat) (E : List α) (j : Nat) : ((E.take j).map f).sum ≤ (E.map f).sum := by
  have h : (E.map f).sum = ((E.take j).map f).sum + ((E.drop j).map f).sum := by
    conv => lhs; rw [← List.take_append_drop j E]
    rw [List.map_append, List.sum_append]
  omega
theorem len_le_sum {α : Type} (f : α → Nat) (h : ∀ x, 1 ≤ f x) : ∀ E : List α, E.length ≤ (E.map f).sum
  | [] => Nat.zero_le _
  | x :: E => by
    have := len_le_sum f h E
    have := h x
    simp only [List.length_cons, List.map_cons, List.sum_cons]
    omega
/-- How far printDir has come. -/
structure PdS (w0 W wr : World) (q : Nat) (Y : Nat → Prop) (s : NS) (nb n : Nat) (B : Bas) (out : List UInt8) (v : Value) (l : List (List UInt8)) (G : List UInt8 → List UInt8) (d : Int) (j : Nat) : Prop where
  pr : PrX w0 wr q Y s nb n B (out ++ (l.take j).flatMap G)
  row : TRow wr v l
  kept : Lib.OthersKept 5 (some w0.heap.size) W wr
  len : ((l.take j).flatMap G).length ≤ KB n * (((entN s.L d).take j).map (cost s)).sum
set_option maxRecDepth 20000 in
set_option maxHeartbeats 4000000 in
theorem printDir_step {w0 : World} {q nb n : Nat} {B : Bas} {m : Nat} {Y : Nat → Prop} {s : NS} (hpw : PowB B) (hn : n ≤ 1000) (PD : ∀ k, m = k + 1 → PDAt w0 q Y s nb n B k) : PDAt w0 q Y s nb n B m := by
  intro W d p out H hd hnm hcb hp ho
  have hr := H.nd.ok.rng hd
  have hlt0 : w0.heap.size < W.heap.size := by
    rcases H.bld with h | h
    · obtain ⟨_, v, hb, _⟩ := h
      exact (Array.getElem?_eq_some_iff.1 hb).1
    · obtain ⟨_, v, hb, _⟩ := h
      exact (Array.getElem?_eq_some_iff.1 hb).1
  have hsum := cost_sum H.nd.ok.inv hd hnm
  have hlen : (inL s.L d).length = (entN s.L d).length := by unfold inL entN; rw [List.length_map]
  have hle1 := len_le_sum (cost s) (fun x => by unfold cost; omega) (entN s.L d)
  have hln : (inL s.L d).length ≤ 1000 := by have := in_len H.nd.ok d; omega
  obtain ⟨G, hG⟩ : ∃ G : List UInt8 → List UInt8, G = fun t => prN (prD s (m - 1)) s (findN s d t) (p ++ [47] ++ t) := ⟨_, rfl⟩
  have HRES : Hid (prD s m d p = (inL s.L d).flatMap G) := hide (by
    cases m with
    | zero =>
      have : inL s.L d = [] := List.eq_nil_of_length_eq_zero (by omega)
      rw [this]
      rfl
    | succ k => rw [hG]; rfl)
  have HRI := hide (rising_any H.nd (by omega) d (by omega))
  obtain ⟨l, hl⟩ : ∃ l, l = inL s.L d := ⟨_, rfl⟩
  have HL := hide hl
  rw [← hl] at HRES HRI hln hlen
  obtain ⟨RR, hRR⟩ : ∃ RR, RR = prD s m d p := ⟨_, rfl⟩
  rw [← hRR] at HRES ⊢
  have HENT : Hid (∀ j t, l[j]? = some t → ∃ x, (entN s.L d)[j]? = some x ∧ x.name = t ∧ findN s d t = x.node ∧ x ∈ s.L) := hide (fun j t ht => by
    rw [hl] at ht
    unfold inL at ht
    rw [List.getElem?_map] at ht
    obtain ⟨x, hx, e⟩ := Option.map_eq_some_iff.1 ht
    have hm := ent_mem.1 (List.mem_of_getElem? hx)
    exact ⟨x, hx, e, by rw [← e]; exact find_of H.nd.ok.inv.srt hm.1 hm.2 rfl, hm.1⟩)
  have HOK := hide H.nd.ok
  have HPNB : Hid (∀ (w1 : World) (t out' : List UInt8) (x : Nm), x ∈ s.L → x.name = t → findN s d t = x.node → PrX w0 w1 q Y s nb n B out' → out'.length + KB n * cost s x ≤ 1000000000 → cost s x ≤ cb s d → Calls Tryz.prog 124 #[.pointer (some ⟨q, 0, none⟩), .pointer (some ⟨w0.heap.size, 0, none⟩), .int .i64 (findN s d t), .string (BA (p ++ [47] ++ t))] w1 fun e w' => e = .returned (.tuple #[]) ∧ Hid (PrTo w0 w1 w' q Y s nb n B out' (G t) ∧ (G t).length ≤ KB n * cost s x)) := hide (fun w1 t out' x hx hxt hfx hpr hol hcx => by
    have hnode := H.nd.ok.node hx
    have hnm1 := H.nd.ok.nm x hx
    have htl : t.length ≤ 32 := by rw [← hxt]; exact hnm1.len
    have hc1 : 1 ≤ cost s x := by unfold cost; omega
    obtain ⟨k, hk⟩ : ∃ k, m = k + 1 := ⟨m - 1, by omega⟩
    have hcst : cst s x.node = cost s x := rfl
    have hpl : (p ++ [47] ++ t).length ≤ p.length + 33 := by simp only [List.length_append, List.length_cons, List.length_nil]; omega
    have h := printNode_any hpw (PD k hk) x.node (p ++ [47] ++ t) out' hpr hn hnode (fun hk2 => by
      have hcc : cost s x = 1 + cb s x.node := by unfold cost; rw [if_pos hk2]
      exact ⟨NV.node1 H.nd.ok.inv.names hx, by omega, by omega⟩) (by omega) (by rw [hcst]; exact hol)
    rw [hcst] at h
    rw [hfx]
    have e : G t = prN (prD s k) s x.node (p ++ [47] ++ t) := by
      rw [hG]
      simp only
      rw [hfx, hk]
      rfl
    rw [e]
    exact h)
  have HLK : Hid (∀ w1 out' t, PrX w0 w1 q Y s nb n B out' → t.length ≤ 32 → Calls Tryz.prog 92 #[.pointer (some ⟨q, 0, none⟩), .agg #[.int .i64 d, .string (BA t)]] w1 fun e w' => e = .returned (.tuple #[.int .i64 (findN s d t), .bool (isN s d t)]) ∧ Below w1.heap.size w1 w') := hide (fun w1 out' t h ht => lookup_any h.nd d t (by omega) (by omega))
  have HSUM := hide hsum
  have HH := hide H
  have HO := hide ho
  have hpp : p.length ≤ 40000 := by omega
  have HC1 : Hid (∀ t, BA p ++ (⟨#[47]⟩ : ByteArray) ++ BA t = BA (p ++ [47] ++ t)) := hide (fun t => by
    rw [show (⟨#[47]⟩ : ByteArray) = BA [47] from rfl, BA_add, BA_add])
  have HLT0 := hide hlt0
  obtain ⟨len, hlenn⟩ : ∃ len, len = l.length := ⟨_, rfl⟩
  have HLN := hide hlenn
  rw [← hlenn] at hln hlen
  have HLE := hide hlen
  clear PD H hd hnm hcb ho hr hlt0 hsum hle1 hG hl hRR hlen hlenn hp
  go_enter Tryz.func73, Tryz.ntmps73
  go_wp2_with fail
  refine (unhide HRI).mono ?_
  rintro e w1 ⟨v, rfl, HR1⟩
  obtain ⟨ad, cap, hv, _, _⟩ := (unhide HR1).1.len
  rw [← unhide HLN] at hv
  subst hv
  obtain ⟨PX, hPX⟩ : ∃ PX : World → Nat → Prop, PX = fun wr j => PdS w0 W wr q Y s nb n B out (.slice ad len cap) l G d j := ⟨_, rfl⟩
  have HX1 : Hid (∀ wr j, PX wr j → PdS w0 W wr q Y s nb n B out (.slice ad len cap) l G d j) := hide (fun wr j h => by rw [hPX] at h; exact h)
  have HX2 : Hid (∀ wr j, PdS w0 W wr q Y s nb n B out (.slice ad len cap) l G d j → PX wr j) := hide (fun wr j h => by rw [hPX]; exact h)
  have HS0 : Hid (PX w1 0) := hide (unhide HX2 _ _ ⟨by
    show PrX w0 w1 q Y s nb n B (out ++ [])
    rw [List.append_nil]
    exact (unhide HH).below (unhide HR1).2.2, (unhide HR1).1, kept_of_below (unhide HR1).2.2 _, Nat.zero_le _⟩)
  have HNB : Hid (∀ k, (Value.slice ad len cap).ownBlock = some k → k ≠ w0.heap.size) := hide (fun k hk e => by
    have := (unhide HR1).2.1 k hk
    have := unhide HLT0
    omega)
  clear hPX HR1 HRI
  go_wp2_with fail
  go_loopw [16] (fun i wr => ∃ j : Nat, i = .int .i64 (j : Int) ∧ j ≤ len ∧ Hid (PX wr j)) (fun i _ => len - (intOf i).toNat)
  case atStart => exact ⟨0, rfl, Nat.zero_le _, HS0⟩
  case round =>
    clear HS0
    obtain ⟨j, rfl, hjl, HT⟩ := hrel
    have hS := unhide HX1 _ _ (unhide HT)
    by_cases hlt : j < len
    · have hk1 : (j : Int) < (len : Int) := by omega
      have hk0 : (0 : Int) ≤ (j : Int) := by omega
      obtain ⟨t, ht⟩ : ∃ t, l[j]? = some t := ⟨_, List.getElem?_eq_getElem (by have := unhide HLN; omega)⟩
      obtain ⟨g, hg, cj⟩ := hS.row.at ht
      subst hg
      obtain ⟨x, hx1, hx2, hx3, hx4⟩ := unhide HENT j t ht
      have htl : t.length ≤ 32 := by rw [← hx2]; exact ((unhide HOK).nm x hx4).len
      have hst := sum_take (cost s) hx1
      have hsl := sum_take_le (cost s) (entN s.L d) (j + 1)
      have HCX : Hid (cost s x ≤ cb s d) := hide (by have := unhide HSUM; omega)
      have hmul : KB n * (((entN s.L d).take j).map (cost s)).sum + KB n * cost s x ≤ KB n * cb s d := by
        rw [← Nat.mul_add, ← hst]
        exact Nat.mul_le_mul_left _ (Nat.le_trans hsl (unhide HSUM))
      have HOL : Hid ((out ++ (l.take j).flatMap G).length + KB n * cost s x ≤ 1000000000) := hide (by
        rw [List.length_append]
        have := hS.len
        have := unhide HO
        omega)
      have HLKC := hide (unhide HLK wr _ t hS.pr htl)
      have HFL : Hid ((l.take (j + 1)).flatMap G = (l.take j).flatMap G ++ G t) := hide (by
        rw [List.take_add_one, ht]
        simp)
      have HST := hide hst
      have HSS := hide hS
      have HXX := hide (And.intro hx2 (And.intro hx3 hx4))
      clear hS HT ht hx1 hx2 hx3 hx4 hst hsl hmul
      go_wp2_with fail
      refine (unhide HLKC).mono ?_
      rintro e w3 ⟨rfl, b3⟩
      have HP3 := hide ((unhide HSS).pr.below b3)
      have HB3 := hide b3
      have HPC := hide (unhide HPNB w3 t _ x (unhide HXX).2.2 (unhide HXX).1 (unhide HXX).2.1 (unhide HP3) (unhide HOL) (unhide HCX))
      clear b3 cj HLKC
      go_wp2_with fail
      rw [unhide HC1]
      refine (unhide HPC).mono ?_
      rintro e w4 ⟨rfl, HP4⟩
      have HN : Hid (PX w4 (j + 1)) := hide (unhide HX2 _ _ ⟨by
        rw [unhide HFL, ← List.append_assoc]
        exact (unhide HP4).1.1, ((unhide HSS).row.below (unhide HB3)).kept (unhide HP4).1.2 (unhide HNB), ((unhide HSS).kept.trans (kept_of_below (unhide HB3) _)).trans (unhide HP4).1.2, by
        rw [unhide HFL, List.length_append, unhide HST, Nat.mul_add]
        have := (unhide HSS).len
        have := (unhide HP4).2
        omega⟩)
      go_wp2_with fail
      go_roundw
      case rel => exact ⟨j + 1, by go_num, by omega, HN⟩
      case measure => simp [intOf]; omega
    · have hk1 : ¬ (j : Int) < (len : Int) := by omega
      have htk : l.take j = l := List.take_of_length_le (by have := unhide HLN; omega)
      have htk2 : (entN s.L d).take j = entN s.L d := List.take_of_length_le (by have := unhide HLE; omega)
      have HZ : Hid (PrX w0 wr q Y s nb n B (out ++ RR) ∧ Lib.OthersKept 5 (some w0.heap.size) W wr ∧ RR.length ≤ KB n * cb s d) := hide (by
        have h1 := hS.pr
        have h2 := hS.len
        rw [htk] at h1 h2
        rw [htk2] at h2
        rw [unhide HRES]
        exact ⟨h1, hS.kept, Nat.le_trans h2 (Nat.mul_le_mul_left _ (unhide HSUM))⟩)
      clear hS HT htk htk2
      go_wp2_with fail
      exact bodyPost_end (res0 rfl _ _) rfl ⟨rfl, HZ⟩
theorem printDir_any {w0 : World} {q nb n : Nat} {B : Bas} {Y : Nat → Prop} {s : NS} (hpw : PowB B) (hn : n ≤ 1000) : ∀ m, PDAt w0 q Y s nb n B m
  | 0 => printDir_step hpw hn (fun k h => by omega)
  | m + 1 => printDir_step hpw hn (fun k h => by
    have : k = m := by omega
    subst this
    exact printDir_any hpw hn k)
/-- A tree as a text. -/
def prT (s : NS) : List UInt8 := prD s s.L.length 1 []
set_option maxRecDepth 20000 in
set_option maxHeartbeats 1000000 in
theorem print_any {w : World} {f q nb n : Nat} {B : Bas} {Y : Nat → Prop} {s : NS} (hpw : PowB B) (H : FX w f q Y s nb n B) (hn : n ≤ 1000) : Calls Tryz.prog 22 #[.pointer (some ⟨f, 0, none⟩)] w fun e w' => e = .returned (.string (BA (prT s))) ∧ Below w.heap.size w w' := by
  have HE := hide (empty_any H)
  obtain ⟨W1, hW1⟩ : ∃ W1, W1 = w.alloc (.cells #[.pointer none, .slice none 0 0] 108) := ⟨_, rfl⟩
  have hb1 : Below w.heap.size w W1 := by rw [hW1]; exact (Below.refl _ w).alloc (Nat.le_refl _) _
  have hbd : Lib.IsBuilder 108 5 w.heap.size w.heap.size (Lib.byteCells []) W1 := by rw [hW1]; exact Lib.fresh_isBuilder _ _ w
  have c0 : W1.cell? ⟨f, 0, none⟩ = some (.pointer (some ⟨q, 0, none⟩)) := (H.below hb1).blk.cell 0 rfl
  have hcb : cb s 1 ≤ s.L.length := List.countP_le_length
  have hln := H.nd.ok.len
  have HX : Hid (PrX w W1 q Y s nb n B []) := hide ⟨H.nd.tight.below hb1, hb1, hbd, H.nd.env.le⟩
  have hm : KB n * cb s 1 ≤ 38000 * 1000 := Nat.mul_le_mul (by unfold KB; omega) (by omega)
  have HPD := hide (printDir_any (w0 := w) (q := q) (nb := nb) (n := n) (B := B) (Y := Y) (s := s) hpw hn s.L.length W1 1 [] [] (unhide HX) H.nd.ok.inv.root H.nd.ok.inv.nm1 hcb (by simp only [List.length_nil]; omega) (by simp only [List.length_nil]; omega))
  have HW1 := hide hW1
  have HPR : Hid ([] ++ prD s s.L.length 1 [] = prT s) := hide rfl
  rw [unhide HPR] at HPD
  obtain ⟨R, hR⟩ : ∃ R, R = prT s := ⟨_, rfl⟩
  rw [← hR] at HPD ⊢
  obtain ⟨b, hb⟩ : ∃ b, b = w.heap.size := ⟨_, rfl⟩
  have HBB := hide hb
  rw [← hb] at HPD
  clear H hW1 hb1 hbd hcb hln hm hR hb HPR
  go_enter Tryz.func22, Tryz.ntmps22
  go_wp2_with fail
  refine (unhide HE).mono ?_
  rintro e w1 ⟨rfl, hw1⟩
  have hw2 := hw1.symm
  subst hw2
  clear hw1 HE
  go_upto_region 4 with fail
  rw [← unhide HW1, ← unhide HBB]
  go_wp2_with fail
  refine (unhide HPD).mono ?_
  rintro e w3 ⟨rfl, HP3⟩
  have HST : Hid (Calls Tryz.prog 74 #[.pointer (some ⟨b, 0, none⟩)] w3 fun e w' => e = .returned (.string (BA R)) ∧ Below w.heap.size w w') := hide (by
    rw [unhide HBB]
    exact (Tryz.Builder_String_any w.heap.size w.heap.size R w3 (unhide HP3).1.bld (unhide HP3).1.bel.size).mono fun _ w' h => ⟨h.1, (unhide HP3).1.bel.trans (by first | exact h.2 | exact h.2.2)⟩)
  clear HPD c0
  go_wp2_with fail
  refine (unhide HST).mono ?_
  rintro e w4 ⟨rfl, b4⟩
  have HB4 := hide b4
  clear b4
  go_wp2_with fail
  go_ret
  exact ⟨rfl, unhide HB4⟩

end Go.Proofs.YtghidcohgkajaaaGreatDoor

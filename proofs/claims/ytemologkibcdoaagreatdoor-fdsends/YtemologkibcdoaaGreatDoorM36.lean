/-
  Numbers of open files: what is written to a sink.
  Numbers of open files: what is open is read and written.
-/
import Derived.Test.YtemologkibcdoaaGreatDoorM35
import Derived.Lib.AppendStr
import Derived.Lib.AppendZeros

/- Numbers of open files: what is written to a sink. -/
namespace Go.Proofs.YtemologkibcdoaaGreatDoor
open Go.RowKit Go.Maps

/-- Bytes behind a row of bytes: where the longer row lies. -/
theorem run_app_str (w : World) (ty : TypeId) (v : Value) (n : Nat) (xs : List Value) (hown : w.ownsRow 0 5 1 v n xs) (s : ByteArray) (h63 : n + s.size ≤ 140737488355328) : ∃ v' w', (Builtin.append_ #[109, 9] ty #[v, .string s]).run Tryz.prog w = .ok v' w' ∧ w'.ownsRow 0 5 1 v' (n + s.size) (xs ++ Lib.strCells s) ∧ w.grownBy w' v.ownBlock ∧ (∀ g, v'.ownBlock = some g → v.ownBlock = some g ∨ w.heap.size ≤ g) ∧ (v' = .slice none 0 0 → v = .slice none 0 0) := by
  obtain ⟨i0, hi, hz0, hz1, hz2⟩ := info2 info_byte
  have hm : n + s.size ≤ maxLen := by unfold maxLen; omega
  rcases hown.2 with ⟨rfl, rfl⟩ | ⟨g, cap, cur, rfl, hbg, hg, hnc, hcm, hcs, htake⟩
  · have hx : xs = [] := List.eq_nil_of_length_eq_zero (by simpa using hown.1)
    subst hx
    obtain ⟨v', w', hr, o1, o2, o3⟩ := Lib.run_append_own_string (P := Tryz.prog) w w.heap.size 109 9 ty 5 i0 und_bytes und_str hi hz0 hz1 hz2 (.slice none 0 0) 0 [] (World.ownsRow_nil w _ _ _) s hm h63 (Nat.le_refl _)
    refine ⟨v', w', hr, ⟨o1.1, o1.2.imp id (fun ⟨g, cap, cur, h1, h2, h3⟩ => ⟨g, cap, cur, h1, Nat.zero_le _, h3⟩)⟩, o2, fun g hg => .inr ?_, fun _ => rfl⟩
    rcases o1.2 with ⟨h, _⟩ | ⟨g', cap, cur, h1, h2, _⟩
    · rw [h] at hg; cases hg
    · rw [h1] at hg
      injection hg with hg
      subst hg
      exact h2
  · obtain ⟨v', w', hr, o1, o2, o3⟩ := Lib.run_append_own_string (P := Tryz.prog) w 0 109 9 ty 5 i0 und_bytes und_str hi hz0 hz1 hz2 _ n xs hown s hm h63 (Nat.zero_le _)
    refine ⟨v', w', hr, o1, o2, fun g' hg' => ?_, fun h => (by have := (o3.1 h).1; cases this)⟩
    by_cases hroom : n + s.size ≤ cap
    · have h2 := Lib.run_append_room_string (P := Tryz.prog) w 109 9 ty 5 i0 und_bytes und_str hi hz1 g n cap cur hg s hroom (by omega)
      rw [hr] at h2
      injection h2 with h2 _
      rw [h2] at hg'
      exact .inl hg'
    · have holds : ∀ j u, xs[j]? = some u → w.cell? ((⟨g, 0, none⟩ : Addr).add j) = some u := hown.cells (g := g) rfl
      have h2 := Lib.run_append_grow_string (P := Tryz.prog) w 109 9 ty 5 i0 (.int .u8 0) und_bytes und_str hi hz0 ⟨g, 0, none⟩ n cap xs (by rw [hz1]; exact hown.1) holds s (by omega) (by omega) (by rw [hz2]; exact growslice_fits (by omega) (by omega))
      rw [hr] at h2
      injection h2 with h2 _
      rw [h2] at hg'
      injection hg' with hg'
      exact .inr (by rw [← hg']; exact Nat.le_refl _)
theorem MX.rowTurn {w w1 w2 : World} {f q nb n : Nat} {B : Bas} {Z : Nat → Prop} {s : NS} {H : Hp} (M : MX w f q Z s nb n B H) {tg : Tg} {e : Nat} {v v' : Value} {xs ys : List Value} (hr : Row H tg e v xs) (hb : Below w.heap.size w w1) (hg : w1.grownBy w2 v.ownBlock) (ho : w2.ownsRow 0 e 1 v' ys.length ys) (hat : ∀ g, v'.ownBlock = some g → v.ownBlock = some g ∨ w1.heap.size ≤ g) (hnil : v' = .slice none 0 0 → v = .slice none 0 0) : ∃ H2, MX w2 f q Z s nb n B H2 ∧ Row H2 tg e v' ys ∧ ∀ b o, H b = some o → o.tg ≠ tg → H2 b = some o := by
  rcases ho.2 with ⟨rfl, h0⟩ | ⟨g, cap, cur, rfl, _⟩
  · have hv := hnil rfl
    subst hv
    have hy : ys = [] := List.eq_nil_of_length_eq_zero h0
    subst hy
    exact ⟨H, M.below (hb.trans ((below_of_grown hg).mono hb.size)), .inl ⟨rfl, rfl⟩, fun b o h _ => h⟩
  · exact M.rowGrow hr hb hg ho (hat g rfl)
/-- One sink has turned. -/
theorem Lies.skSet {H H' : Hp} {f x c : Nat} {L : Fay} {sb : List Nat} {A : AS} (h : Lies H f x L sb A c) {k : Nat} {t0 t : List UInt8} (hk : A.sk[k]? = some t0) (he : ∀ b o, H b = some o → o.tg ≠ .buf k → o.tg ≠ .sink k → H' b = some o) {a v : Value} (hs : H' (L.kb k) = some ⟨.sink k, 113, #[a, v]⟩) (ha : a = .pointer none ∨ a = ptrV (L.kb k)) (hr : Row H' (.buf k) 5 v (Lib.byteCells t)) : Lies H' f x L sb { A with sk := A.sk.set k t } c := by
  obtain ⟨v0, h1, h2⟩ := h.fil
  refine ⟨⟨v0, he _ _ h1 (by simp) (by simp), ?_⟩, fun i u h3 => he _ _ (h.th i u h3) (by simp) (by simp), fun i u h3 => ?_, fun p y hp => ?_, fun j u hj => ?_, fun j b l h3 h4 => ⟨he _ _ (h.st j b l h3 h4).1 (by simp) (by simp), (h.st j b l h3 h4).2⟩, h.len⟩
  · show Row H' _ _ _ ((List.range (A.sk.set k t).length).map _)
    rw [List.length_set]
    exact h2.tag (fun b o hb ho => he b o hb (by rw [ho]; simp) (by rw [ho]; simp))
  · have := h.ob i u h3
    cases hy : u.wh <;> rw [hy] at this
    · exact he _ _ this (by simp) (by simp)
    · trivial
    · trivial
    · exact he _ _ this (by simp) (by simp)
    · trivial
  · obtain ⟨cs, e1, e2⟩ := h.pp p y hp
    exact ⟨cs, he _ _ e1 (by simp) (by simp), e2⟩
  · rcases get_set hj with ⟨rfl, rfl⟩ | ⟨hne, hj⟩
    · exact ⟨a, v, hs, ha, hr⟩
    · obtain ⟨a2, v2, e1, e2, e3⟩ := h.sk j u hj
      exact ⟨a2, v2, he _ _ e1 (by simp) (by simpa using hne), e2, e3.tag (fun b o hb ho => he b o hb (by rw [ho]; simpa using hne) (by rw [ho]; simp))⟩
theorem lies_snk : liesAt Tryz.prog Tryz.prog.depth 113 (2 / Tryz.prog.cellsOf 113) 0 111 1 = true := by kernel_rfl
set_option maxRecDepth 20000 in
set_option maxHeartbeats 1000000 in
theorem kcheck_any (b : Nat) (v a : Value) (w : World) (H : Blk w b 113 #[a, v]) (ha : a = .pointer none ∨ a = ptrV b) :
    Calls Tryz.prog 118 #[.pointer (some ⟨b, 0, none⟩)] w fun e w' => e = .returned (.tuple #[]) ∧ Blk w' b 113 #[ptrV b, v] ∧ GrownS w w' (fun k => k = b) := by
  rcases ha with rfl | rfl
  · have h0 : w.cell? ⟨b, 0, none⟩ = some (.pointer none) := H.cell 0 rfl
    have hsh : w.shape? b = some (113, 2) := by simp [World.shape?, show w.heap[b]? = _ from H]
    have hfz := H.frozen 0
    have HS := hide (H.set 0 (ptrV b))
    obtain ⟨j, hj, hjs⟩ := Option.map_eq_some_iff.1 size_bld
    have ht := Lib.run_to_unsafe w ⟨b, 0, none⟩ und_bptr und_unsafe hj (by rw [hjs]; decide) hsh (Nat.zero_lt_succ 1)
    have hf := Lib.run_from_unsafe w ⟨b, 0, none⟩ und_unsafe und_bptr hj hsh lies_snk
    clear H
    go_enter Tryz.func118, Tryz.ntmps118
    go_wp2
    rw [run_callFunc_extern Tryz.func147 (by kernel_rfl) (by kernel_rfl) (by kernel_rfl) (e := Extern.AbiNoEscape.same) (by kernel_rfl)]
    rw [Lib.run_noEscape]
    simp only [Result.andThen]
    rw [Oper.upon_value]
    go_wp2
    refine bodyPost_end (res0 rfl _ _) rfl ?_
    exact ⟨rfl, unhide HS, Pi.own_set _ _ _ _⟩
  · refine (check_used b w (H.cell 0 rfl)).mono ?_
    rintro e w' ⟨rfl, rfl⟩
    exact ⟨rfl, H, grownS_refl _ _⟩
theorem bytes_app (t d : List UInt8) : Lib.byteCells t ++ Lib.strCells (BA d) = Lib.byteCells (t ++ d) := by
  rw [byteCells_append]
  rfl
set_option maxRecDepth 20000 in
set_option maxHeartbeats 4000000 in
theorem kbytes_any {w : World} {f q nb n x c : Nat} {B : Bas} {Z : Nat → Prop} {A : AS} {sb : List Nat} {H : Hp} {L : Fay} (M : MX w f q Z A.s nb n B H) (Li : Lies H f x L sb A c) {k : Nat} {t : List UInt8} (hk : A.sk[k]? = some t) (d : List UInt8) (hd : t.length + d.length ≤ 140737488355328) : Calls Tryz.prog 92 #[.pointer (some ⟨L.kb k, 0, none⟩), .string (BA d)] w fun e w' => e = .returned (.tuple #[.int .i64 (d.length : Int), .nilIface]) ∧ Hid (∃ H', MX w' f q Z A.s nb n B H' ∧ Lies H' f x L sb { A with sk := A.sk.set k (t ++ d) } c) := by
  obtain ⟨a, v, e1, e2, e3⟩ := Li.sk k t hk
  have HC := hide (kcheck_any (L.kb k) v a w (M.blk _ _ e1) e2)
  have hcl : (Lib.byteCells t).length = t.length := by simp [Lib.byteCells]
  have hcd : (Lib.byteCells (t ++ d)).length = t.length + d.length := by simp [Lib.byteCells]
  have HAP : Hid (∀ w1, Blk w1 (L.kb k) 113 #[ptrV (L.kb k), v] → GrownS w w1 (fun j => j = L.kb k) → w1.cell? ⟨L.kb k, 1, none⟩ = some v ∧ ∃ ad n2 c2 w2, (∀ ty, (Builtin.append_ #[109, 9] ty #[v, .string (BA d)]).run Tryz.prog w1 = .ok (.slice ad n2 c2) w2) ∧ w2.cell? ⟨L.kb k, 1, none⟩ = some v ∧ w2.frozen? ⟨L.kb k, 1, none⟩ = false ∧ Hid (∃ H', MX (w2.setCell ⟨L.kb k, 1, none⟩ (.slice ad n2 c2)) f q Z A.s nb n B H' ∧ Lies H' f x L sb { A with sk := A.sk.set k (t ++ d) } c)) := hide (fun w1 hb1 hg1 => by
    have M1 := M.one e1 hg1 (o' := ⟨.sink k, 113, #[ptrV (L.kb k), v]⟩) hb1
    have r1 : Row (upd H (L.kb k) ⟨.sink k, 113, #[ptrV (L.kb k), v]⟩) (.buf k) 5 v (Lib.byteCells t) := e3.tag (upd_tag e1 (by simp))
    have o1 := r1.owns M1
    rw [hcl] at o1
    obtain ⟨v', w2, hr, p1, p2, p3, p4⟩ := run_app_str w1 0 v t.length _ o1 (BA d) (by show t.length + d.length ≤ _; exact hd)
    have hrt : ∀ ty, (Builtin.append_ #[109, 9] ty #[v, .string (BA d)]).run Tryz.prog w1 = .ok v' w2 := fun ty => by
      have : (Builtin.append_ #[109, 9] ty #[v, .string (BA d)]).run Tryz.prog w1 = (Builtin.append_ #[109, 9] 0 #[v, .string (BA d)]).run Tryz.prog w1 := rfl
      rw [this, hr]
    rw [bytes_app] at p1
    have p1' : w2.ownsRow 0 5 1 v' (Lib.byteCells (t ++ d)).length (Lib.byteCells (t ++ d)) := by rw [hcd]; exact p1
    obtain ⟨H2, M2, r2, k2⟩ := M1.rowTurn r1 (Below.refl _ _) p2 p1' p3 p4
    have e4 := k2 _ _ (upd_self H (L.kb k) _) (by simp)
    have b4 := M2.blk _ _ e4
    obtain ⟨ad, c2, hv'⟩ := r2.slice
    subst hv'
    refine ⟨hb1.cell 1 rfl, ad, _, c2, w2, hrt, b4.cell 1 rfl, b4.frozen 1, hide ⟨_, M2.set e4 1 _, Li.skSet hk (fun b o hb h1 h2 => ?_) (upd_self _ _ _) (.inr rfl) (r2.tag (upd_tag e4 (by simp)))⟩⟩
    have hbk : b ≠ L.kb k := tag_ne hb e1 h2
    rw [upd_ne _ _ hbk]
    exact k2 b o (by rw [upd_ne _ _ hbk]; exact hb) h1)
  obtain ⟨kb, hkb⟩ : ∃ kb, kb = L.kb k := ⟨_, rfl⟩
  obtain ⟨T, hT⟩ : ∃ T, T = BA d := ⟨_, rfl⟩
  obtain ⟨ln, hln⟩ : ∃ ln, ln = d.length := ⟨_, rfl⟩
  have hTs : T.size = ln := by rw [hT, hln]; rfl
  rw [← hkb] at HC HAP ⊢
  rw [← hT] at HAP ⊢
  rw [← hln]
  have HLN := hide hln
  clear M Li hk e1 e2 e3 hcl hcd hkb hT hln
  go_enter Tryz.func92, Tryz.ntmps92
  go_wp2_with fail
  refine (unhide HC).mono ?_
  rintro e w1 ⟨rfl, h1, h2⟩
  obtain ⟨c1, ad, n2, c2, w2, hrun, d1, g1, HF⟩ := unhide HAP w1 h1 h2
  have HRUN := hide hrun
  clear HC HAP h1 h2 hrun
  go_wp2_with (first
    | (at_builtin; refine Lib.wpList_append_run _ rfl _ _ _ _ rfl _ _ rfl rfl _ _ (unhide HRUN _) ?_)
    | go_in)
  go_ret2
  exact ⟨rfl, HF⟩

end Go.Proofs.YtemologkibcdoaaGreatDoor

/- Numbers of open files: what is open is read and written. -/
namespace Go.Proofs.YtemologkibcdoaaGreatDoor
open Go.RowKit Go.Maps

theorem pp_at {A : AS} {p : Nat} {y : Pi.Pp} (h : A.pp[p]? = some y) : ppA A p = y := by
  unfold ppA
  rw [h]
  rfl
def rdF : Wh → Nat
  | .file _ => 223
  | .rd _ => 239
  | .wr _ => 234
  | .tape _ => 219
  | .sink _ => 234
def rdV (L : Fay) (i : Nat) : Wh → Value
  | .file _ => .agg #[ptrV (L.ob i)]
  | .rd p => .agg #[ptrV (L.pb p)]
  | .wr _ => .agg #[]
  | .tape _ => ptrV (L.ob i)
  | .sink _ => .agg #[]
set_option maxRecDepth 20000 in
set_option maxHeartbeats 1000000 in
theorem fread1_any {w : World} {f q nb n x c : Nat} {B : Bas} {Z : Nat → Prop} {A : AS} {sb : List Nat} {H : Hp} {L : Fay} (M : MX w f q Z A.s nb n B H) (Li : Lies H f x L sb A c) (K : AOk A n) {i mm : Nat} {y : Fl} (ht : A.th[i]? = some ⟨.file y, mm⟩) (m : Int) : Calls Tryz.prog 223 #[.agg #[ptrV (L.ob i)], .int .i64 m] w fun e w' => e = .returned (.tuple #[.string (BA (xrdT A.s y m)), .int .i64 (xrdE A.s y m)]) ∧ Hid (∃ H', MX w' f q Z (rdWhA A i m (.file y)).s nb n B H' ∧ Lies H' f x L sb (rdWhA A i m (.file y)) c ∧ AOk (rdWhA A i m (.file y)) n) := by
  have ho := K.wh i _ ht
  have M2 := M.below (below_al w #[ptrV (L.ob i)] 103)
  have HC := hide (xread_any (file_at M2 Li ht ho) (j := 0) rfl m)
  have HB : Hid (∀ w', GX w' f q (Yof Z H) A.s nb n ⟨B.w, (w.alloc (.cells #[ptrV (L.ob i)] 103)), fun k => Yof Z H k ∨ k = L.ob i⟩ [(L.ob i, xrdX A.s y m)] → ∃ H', MX w' f q Z (rdWhA A i m (.file y)).s nb n B H' ∧ Lies H' f x L sb (rdWhA A i m (.file y)) c ∧ AOk (rdWhA A i m (.file y)) n) := hide (fun w' G => by
    obtain ⟨H', m1, m2⟩ := file_back M2 Li ht G
    have e : (rdWhA A i m (.file y)) = { setWh A i (.file (xrdX A.s y m)) with s := A.s } := by
      show setWh A i _ = _
      rw [setWh_th ht]
    rw [e]
    exact ⟨H', m1, m2, ok_wh K ht (y := .file (xrdX A.s y m)) (G.ok 0 _ _ rfl) A.s⟩)
  obtain ⟨T, hT⟩ : ∃ T, T = xrdT A.s y m := ⟨_, rfl⟩
  obtain ⟨E, hE⟩ : ∃ E, E = xrdE A.s y m := ⟨_, rfl⟩
  rw [← hT, ← hE] at HC ⊢
  obtain ⟨AA, hAA⟩ : ∃ AA, AA = rdWhA A i m (.file y) := ⟨_, rfl⟩
  rw [← hAA] at HB ⊢
  unfold ptrV at *
  obtain ⟨ob, hob⟩ : ∃ ob, ob = L.ob i := ⟨_, rfl⟩
  rw [← hob] at HC HB ⊢
  clear M Li M2 ht K hT hE hAA hob
  go_enter Tryz.func223, Tryz.ntmps223
  go_wp2_with fail
  refine (unhide HC).mono ?_
  rintro e w1 ⟨rfl, h1⟩
  have H1 := hide (unhide HB _ (unhide h1))
  clear h1 HC HB
  go_wp2_with fail
  go_ret2
  exact ⟨rfl, H1⟩
set_option maxRecDepth 20000 in
set_option maxHeartbeats 1000000 in
theorem rread1_any {w : World} {f q nb n x c : Nat} {B : Bas} {Z : Nat → Prop} {A : AS} {sb : List Nat} {H : Hp} {L : Fay} (M : MX w f q Z A.s nb n B H) (Li : Lies H f x L sb A c) (K : AOk A n) {i p mm : Nat} (ht : A.th[i]? = some ⟨.rd p, mm⟩) (m : Int) : Calls Tryz.prog 239 #[.agg #[ptrV (L.pb p)], .int .i64 m] w fun e w' => e = .returned (.tuple #[.string (BA (Pi.rdT (ppA A p) m)), .int .i64 (Pi.rdE (ppA A p) m)]) ∧ Hid (∃ H', MX w' f q Z (rdWhA A i m (.rd p)).s nb n B H' ∧ Lies H' f x L sb (rdWhA A i m (.rd p)) c ∧ AOk (rdWhA A i m (.rd p)) n) := by
  have hp : p < A.pp.length := K.wh i _ ht
  have M2 := M.below (below_al w #[ptrV (L.pb p)] 117)
  obtain ⟨y, hy⟩ : ∃ y, A.pp[p]? = some y := ⟨_, List.getElem?_eq_getElem hp⟩
  have HC := hide (Pi.read_any (pipe_at M2 Li hy) m)
  have e : (rdWhA A i m (.rd p)) = { A with pp := A.pp.set p (Pi.rdS y m) } := setPp_at hy _
  have K2 := ok_pp K p (fun y => Pi.rdS y m)
  rw [setPp_at hy] at K2
  have HB := hide (fun w' h1 h2 => pipe_back M2 Li hy (w' := w') (y' := Pi.rdS y m) h1 h2)
  have HK := hide K2
  rw [pp_at hy, e]
  obtain ⟨T, hT⟩ : ∃ T, T = Pi.rdT y m := ⟨_, rfl⟩
  obtain ⟨E, hE⟩ : ∃ E, E = Pi.rdE y m := ⟨_, rfl⟩
  rw [← hT, ← hE] at HC ⊢
  unfold ptrV at *
  obtain ⟨ob, hob⟩ : ∃ ob, ob = L.pb p := ⟨_, rfl⟩
  rw [← hob] at HC HB ⊢
  clear M Li M2 ht K hT hE e K2 hob
  go_enter Tryz.func239, Tryz.ntmps239
  go_wp2_with fail
  refine (unhide HC).mono ?_
  rintro e w1 ⟨rfl, h1, h2⟩
  have H1 := hide (unhide HB _ h1 h2)
  clear h1 h2 HC HB
  go_wp2_with fail
  go_ret2
  obtain ⟨H', m1, m2⟩ := unhide H1
  exact ⟨rfl, hide ⟨H', m1, m2, unhide HK⟩⟩
set_option maxRecDepth 20000 in
theorem noread_any (w : World) (m : Int) : Calls Tryz.prog 234 #[.agg #[], .int .i64 m] w fun e w' => e = .returned (.tuple #[.string (BA []), .int .i64 33]) ∧ Below w.heap.size w w' := by
  go_enter Tryz.func234, Tryz.ntmps234
  go_wp2
  go_ret2
  exact ⟨rfl, by first | exact Below.refl _ _ | exact below_al _ _ _⟩
set_option maxRecDepth 20000 in
theorem nowrite_any (w : World) (v : Value) : Calls Tryz.prog 220 #[.agg #[], v] w fun e w' => e = .returned (.tuple #[.int .i64 0, .int .i64 33]) ∧ Below w.heap.size w w' := by
  go_enter Tryz.func220, Tryz.ntmps220
  go_wp2
  go_ret2
  exact ⟨rfl, by first | exact Below.refl _ _ | exact below_al _ _ _⟩
set_option maxRecDepth 20000 in
set_option maxHeartbeats 1000000 in
theorem tread1_any (w : World) (b : Nat) (t : List UInt8) (H : Blk w b 94 #[.string (BA t)]) (m : Int) : Calls Tryz.prog 219 #[ptrV b, .int .i64 m] w fun e w' => e = .returned (.tuple #[.string (BA (if m < 0 then [] else t.take m.toNat)), .int .i64 (if m < 0 then 1 else 0)]) ∧ w' = if m < 0 then w else w.setCell ⟨b, 0, none⟩ (.string (BA (t.drop m.toNat))) := by
  have c0 : w.cell? ⟨b, 0, none⟩ = some (.string (BA t)) := H.cell 0 rfl
  have f0 := H.frozen 0
  unfold ptrV
  by_cases h0 : m < 0
  · rw [if_pos h0, if_pos h0, if_pos h0]
    clear H
    go_enter Tryz.func219, Tryz.ntmps219
    go_wp2
    go_ret2
    exact ⟨rfl, rfl⟩
  · rw [if_neg h0, if_neg h0, if_neg h0]
    obtain ⟨k, rfl⟩ : ∃ k : Nat, m = k := ⟨m.toNat, by omega⟩
    rw [show (k : Int).toNat = k by omega]
    obtain ⟨j, hj⟩ : ∃ j, j = min k t.length := ⟨_, rfl⟩
    have e1 : BA (t.take k) = (BA t).extract 0 j := by
      rw [Pi.ext_take, hj]
      congr 1
      rcases Nat.le_total k t.length with h | h
      · rw [Nat.min_eq_left h]
      · rw [Nat.min_eq_right h, List.take_length, List.take_of_length_le h]
    have e2 : BA (t.drop k) = (BA t).extract j t.length := by
      have := extract_end (BA t) j
      rw [BA_list] at this
      rw [show (BA t).extract j t.length = BA (t.drop j) from this, hj]
      congr 1
      rcases Nat.le_total k t.length with h | h
      · rw [Nat.min_eq_left h]
      · rw [Nat.min_eq_right h, List.drop_length, List.drop_of_length_le h]
    have hmin : min (k : Int) (t.length : Int) = (j : Int) := by omega
    have hjl : j ≤ t.length := by omega
    obtain ⟨T, hT⟩ : ∃ T, T = BA t := ⟨_, rfl⟩
    have hTs : T.size = t.length := by rw [hT]; rfl
    obtain ⟨ln, hln⟩ : ∃ ln, ln = t.length := ⟨_, rfl⟩
    rw [← hT] at c0 e1 e2
    rw [← hln] at hTs hjl hmin e2
    rw [e1, e2]
    have hjl2 : (j : Int) ≤ (ln : Int) := by omega
    have hj0 : (0 : Int) ≤ (j : Int) := by omega
    clear H hj e1 e2 hT hln
    go_enter Tryz.func219, Tryz.ntmps219
    go_wp2
    go_ret2
    exact ⟨rfl, rfl⟩

end Go.Proofs.YtemologkibcdoaaGreatDoor

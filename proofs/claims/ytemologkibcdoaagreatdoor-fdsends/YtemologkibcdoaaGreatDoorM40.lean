/-
  Numbers of open files: Fork.
  Numbers of open files: Pipe, Open.
-/
import Derived.Test.YtemologkibcdoaaGreatDoorM39

/- Numbers of open files: Fork. -/
namespace Go.Proofs.YtemologkibcdoaaGreatDoor
open Go.RowKit Go.Maps

theorem take_st {A : AS} {k fd i : Nat} {l : List (Option Nat)} {t : Th} (hl : A.st[k]? = some l) (ht : A.th[i]? = some t) : (takeA A k (fd : Int) i).st = A.st.set k (l.set fd (some i)) := by
  unfold takeA
  rw [ht]
  dsimp only
  unfold putA row
  dsimp only
  rw [(row_many A i _).1, hl, show (fd : Int).toNat = fd by omega]
  rfl
theorem take_len {A : AS} (k : Nat) (fd : Int) (i : Nat) : (takeA A k fd i).th.length = A.th.length := by
  unfold takeA
  split
  · rfl
  · exact (many_len _ _ _).1
/-- How far the numbers of a row are taken over. -/
structure FrkS (A0 A : AS) (k k2 : Nat) (l : List (Option Nat)) (ns : List Nat) : Prop where
  is : A = frkTo A0 k2 l ns
  old : A.st[k]? = some l
  row : ∃ l', A.st[k2]? = some l' ∧ l'.length = 16 ∧ ∀ j, j < 16 → j ∉ ns → l'[j]? = some none
theorem FrkS.step {A0 A : AS} {k k2 n : Nat} {l : List (Option Nat)} {ns : List Nat} (h : FrkS A0 A k k2 l ns) (K : AOk A n) (hk : k ≠ k2) {j i : Nat} (hj : j < 16) (hl : l[j]? = some (some i)) (hn : j ∉ ns) : FrkS A0 (takeA A k2 (j : Int) i) k k2 l (ns ++ [j]) ∧ AOk (takeA A k2 (j : Int) i) (n + 1) := by
  obtain ⟨h1, h0, l', h2, h3, h4⟩ := h
  obtain ⟨t, ht, _⟩ := K.at h0 hl
  refine ⟨⟨?_, ?_, l'.set j (some i), ?_, by simpa using h3, fun m hm hm2 => ?_⟩, ok_take K h2 (h4 j hj hn) ht⟩
  · rw [h1]
    unfold frkTo
    rw [List.foldl_append]
    show _ = match (l[j]?).join with | none => _ | some i => _
    rw [hl]
    rfl
  · rw [take_st h2 ht, List.getElem?_set_ne (fun e => hk e.symm)]
    exact h0
  · rw [take_st h2 ht]
    exact setl_at h2
  · rw [List.mem_append, not_or] at hm2
    rw [List.getElem?_set_ne (fun e => hm2.2 (by rw [e]; exact List.mem_singleton.2 rfl))]
    exact h4 m hm hm2.1
set_option maxRecDepth 20000 in
set_option maxHeartbeats 8000000 in
theorem sfork_any {w : World} {f q nb n x : Nat} {B : Bas} {Z : Nat → Prop} {A : AS} {sb : List Nat} {H : Hp} {L : Fay} (F : FH w f q Z A nb n B x sb H L) {k b : Nat} {l : List (Option Nat)} (hb : sb[k]? = some b) (hl : A.st[k]? = some l) (K : AOk A n) (hn : n ≤ 8000) : Calls Tryz.prog 9 #[.pointer (some ⟨b, 0, none⟩)] w fun e w' => e = .returned (.pointer (some ⟨w.heap.size, 0, none⟩)) ∧ Hid ((∃ H', FH w' f q Z (frkA A k) nb (n + 16) B x (sb ++ [w.heap.size]) H' L) ∧ AOk (frkA A k) (n + 16)) := by
  obtain ⟨c0, c1, f1, hblk, hl16⟩ := F.setCell hb hl
  have HNI := hide (sisnil_any hblk)
  have HSE := hide (xset_any F)
  have hklt := (List.getElem?_eq_some_iff.1 hl).1
  have hkb : k < sb.length := by rw [F.li.len]; exact hklt
  have hb2 : (sb ++ [w.heap.size])[k]? = some b := by rw [List.getElem?_append_left hkb]; exact hb
  have hb3 : (sb ++ [w.heap.size])[A.st.length]? = some w.heap.size := by rw [← F.li.len, List.getElem?_append_right (Nat.le_refl _), Nat.sub_self]; rfl
  have hl2 : (nwSt A).st[k]? = some l := by show (A.st ++ [_])[k]? = _; rw [List.getElem?_append_left hklt]; exact hl
  have hl3 : (nwSt A).st[A.st.length]? = some (List.replicate 16 none) := by show (A.st ++ [_])[A.st.length]? = _; rw [List.getElem?_append_right (Nat.le_refl _), Nat.sub_self]; rfl
  have K1 := ok_nwSt K
  have hfs : FrkS (nwSt A) (nwSt A) k A.st.length l [] := ⟨rfl, hl2, _, hl3, by simp, fun j hj _ => by rw [List.getElem?_replicate, if_pos hj]⟩
  have hkk : k ≠ A.st.length := by omega
  have hfrk : frkA A k = frkTo (nwSt A) A.st.length l (numsL l true) := by unfold frkA; rw [row_at hl]
  rw [hfrk]
  obtain ⟨sb2, hsb2⟩ : ∃ sb2, sb2 = sb ++ [w.heap.size] := ⟨_, rfl⟩
  rw [← hsb2] at HSE hb2 hb3 ⊢
  obtain ⟨nB, hnB⟩ : ∃ nB, nB = w.heap.size := ⟨_, rfl⟩
  rw [← hnB] at HSE hb3 ⊢
  obtain ⟨A1, hA1⟩ : ∃ A1, A1 = nwSt A := ⟨_, rfl⟩
  rw [← hA1] at HSE hl2 hl3 K1 hfs ⊢
  obtain ⟨k2, hk2⟩ : ∃ k2, k2 = A.st.length := ⟨_, rfl⟩
  rw [← hk2] at hb3 hl3 hfs hkk ⊢
  have HLI : Hid (∀ w1, (∃ H', FH w1 f q Z A1 nb n B x sb2 H' L) → Calls Tryz.prog 33 #[.pointer (some ⟨b, 0, none⟩), .bool true] w1 fun e w' => ∃ v, e = .returned v ∧ Hid (NuRow w1.heap.size w' v (numsL l true) ∧ Below w1.heap.size w1 w')) := hide (fun w1 h => by
    obtain ⟨H1, F1⟩ := h
    obtain ⟨_, _, _, hbk, h16⟩ := F1.setCell hb2 hl2
    exact numbers_any hbk h16 true)
  have HB2 := hide hb2
  have HB3 := hide hb3
  have HK1 := hide K1
  have HFS := hide hfs
  obtain ⟨ns, hns⟩ : ∃ ns, ns = numsL l true := ⟨_, rfl⟩
  have hmem : ∀ j, j ∈ ns → j < 16 ∧ ∃ i, l[j]? = some (some i) := fun j hj => nums_mem (hns ▸ hj)
  have hnd : ns.Nodup := by rw [hns]; exact nums_nodup _ _
  have hln : ns.length ≤ 16 := by rw [hns]; exact nums_le _ _
  rw [← hns] at HLI ⊢
  have HMEM := hide hmem
  have HND := hide hnd
  clear F K hb hl c1 f1 hblk hl16 hklt hkb hb2 hb3 hl2 hl3 K1 hfs hfrk hsb2 hnB hA1 hk2 hns hmem hnd
  go_enter Tryz.func9, Tryz.ntmps9
  go_wp2_with fail
  refine (unhide HNI).mono ?_
  rintro e w1 ⟨rfl, hw⟩
  subst hw
  go_wp2_with fail
  refine (unhide HSE).mono ?_
  rintro e w0 ⟨rfl, h0⟩
  have HL := hide (unhide HLI w0 (unhide h0))
  clear HSE HLI HNI
  go_wp2_with fail
  refine (unhide HL).mono ?_
  rintro e w1 ⟨v, rfl, h1⟩
  obtain ⟨hrow, hbel⟩ := unhide h1
  obtain ⟨ad, cap, rfl, hcap, hmx, hcell⟩ := hrow
  obtain ⟨N, hN⟩ : ∃ N, N = ns.length := ⟨_, rfl⟩
  rw [← hN] at hln hcap ⊢
  have HN := hide hN
  obtain ⟨H1, F0⟩ := unhide h0
  have HF0 := hide F0
  have F1 := F0.renew hbel
  have HF1 : Hid (FH w1 f q (Zup w0 w1 Z) A1 nb n ⟨B.w, w1, Zup w0 w1 Z⟩ x sb2 H1 L) := hide F1.rebased
  have HBACK : Hid (∀ w2 A2 n2 H2, FH w2 f q (Zup w0 w1 Z) A2 nb n2 ⟨B.w, w1, Zup w0 w1 Z⟩ x sb2 H2 L → FH w2 f q Z A2 nb n2 B x sb2 H2 L) := hide (fun w2 A2 n2 H2 G => (unhide HF0).home hbel (F1.back G).1)
  have HCE : Hid (∀ w2 A2 n2 H2, FH w2 f q (Zup w0 w1 Z) A2 nb n2 ⟨B.w, w1, Zup w0 w1 Z⟩ x sb2 H2 L → ∀ (i x : Nat), ns[i]? = some x → ∃ g, ad = some ⟨g, 0, none⟩ ∧ w2.cell? ⟨g, i, none⟩ = some (.int .i64 (x : Int))) := hide (fun w2 A2 n2 H2 G i x hx => by
    obtain ⟨g, e1, e2, e3, e4⟩ := hcell i x hx
    have hg : GrownS w1 w2 (Zup w0 w1 Z) := G.mx.env.kept
    have hz : ¬ Zup w0 w1 Z g := by
      rintro (h | h)
      · have := h.2
        omega
      · omega
    refine ⟨g, e1, ?_⟩
    have := hg.block g e3 hz
    simp only [World.cell?] at e2 ⊢
    rw [this]
    exact e2)
  have HST : Hid (∀ (w2 : World) (A2 : AS) (j m : Nat), (∃ H2 n2, FH w2 f q (Zup w0 w1 Z) A2 nb n2 ⟨B.w, w1, Zup w0 w1 Z⟩ x sb2 H2 L ∧ AOk A2 n2 ∧ n2 = n + j ∧ FrkS A1 A2 k k2 l (ns.take j)) → ns[j]? = some m → j < N → ∃ tb, m < 16 ∧ w2.cell? ⟨b, 1 + m, none⟩ = some (.pointer (some ⟨tb, 0, none⟩)) ∧ Calls Tryz.prog 34 #[.pointer (some ⟨nB, 0, none⟩), .int .i64 (m : Int), .pointer (some ⟨tb, 0, none⟩)] w2 fun e w' => e = .returned (.tuple #[]) ∧ Hid (∃ A3 H2 n2, FH w' f q (Zup w0 w1 Z) A3 nb n2 ⟨B.w, w1, Zup w0 w1 Z⟩ x sb2 H2 L ∧ AOk A3 n2 ∧ n2 = n + (j + 1) ∧ FrkS A1 A3 k k2 l (ns.take (j + 1)))) := hide (fun w2 A2 j m h hm hj => by
    obtain ⟨H2, n2, G, K2, rfl, hE⟩ := h
    obtain ⟨m1, i, m2⟩ := unhide HMEM m (List.mem_of_getElem? hm)
    have hno := next_no (unhide HND) hm
    obtain ⟨t, ht, t1, t2, tw⟩ := K2.at hE.old m2
    obtain ⟨l', r1, r2, r3⟩ := hE.row
    have hst := hE.step K2 hkk m1 m2 hno
    have e3 := (G.setCell (unhide HB2) hE.old).2.1 m m1
    rw [m2] at e3
    refine ⟨L.tb i, m1, e3, (ftake_any G (unhide HB3) r1 m1 ht (by omega) (by have := K2.open; omega)).mono (fun e w' h => ⟨h.1, hide ?_⟩)⟩
    obtain ⟨H3, G3⟩ := unhide h.2
    rw [take_app1 hm]
    exact ⟨_, H3, _, G3.mono (Nat.le_succ _), hst.2, by omega, hst.1⟩)
  have hfin : Hid (∀ w2 A2, (∃ H2 n2, FH w2 f q (Zup w0 w1 Z) A2 nb n2 ⟨B.w, w1, Zup w0 w1 Z⟩ x sb2 H2 L ∧ AOk A2 n2 ∧ n2 = n + N ∧ FrkS A1 A2 k k2 l (ns.take N)) → (∃ H', FH w2 f q Z (frkTo A1 k2 l ns) nb (n + 16) B x sb2 H' L) ∧ AOk (frkTo A1 k2 l ns) (n + 16)) := hide (fun w2 A2 h => by
    obtain ⟨H2, n2, G, K2, rfl, hE⟩ := h
    rw [List.take_of_length_le (by rw [unhide HN]; exact Nat.le_refl _)] at hE
    have e := hE.is
    subst e
    exact ⟨⟨H2, (unhide HBACK _ _ _ _ G).mono (by omega)⟩, K2.mono (by omega)⟩)
  have hst : Hid (∃ A2 H2 n2, FH w1 f q (Zup w0 w1 Z) A2 nb n2 ⟨B.w, w1, Zup w0 w1 Z⟩ x sb2 H2 L ∧ AOk A2 n2 ∧ n2 = n + 0 ∧ FrkS A1 A2 k k2 l (ns.take 0)) := hide ⟨A1, H1, n, unhide HF1, unhide HK1, rfl, unhide HFS⟩
  have hx : Hid (∀ j, j < N → ∃ m, ns[j]? = some m) := hide (fun j hj => ⟨_, List.getElem?_eq_getElem (by rw [← unhide HN]; exact hj)⟩)
  clear HL h1 h0 hbel hcell hN F0 F1 HF0 HF1 HBACK HMEM HND HFS HK1 HB2 HB3 HN
  go_wp2_with fail
  go_loopw [16] (fun i wr => ∃ (j : Nat), i = .int .i64 (j : Int) ∧ j ≤ N ∧ Hid (∃ A2 H2 n2, FH wr f q (Zup w0 w1 Z) A2 nb n2 ⟨B.w, w1, Zup w0 w1 Z⟩ x sb2 H2 L ∧ AOk A2 n2 ∧ n2 = n + j ∧ FrkS A1 A2 k k2 l (ns.take j))) (fun i _ => N + 1 - (intOf i).toNat)
  case atStart => exact ⟨0, rfl, Nat.zero_le _, hst⟩
  case round =>
    clear hst
    obtain ⟨j, rfl, hj, HS⟩ := hrel
    by_cases hlt : j < N
    · have h1 : (j : Int) < (N : Int) := by omega
      have h0 : (0 : Int) ≤ (j : Int) := by omega
      obtain ⟨m, hm⟩ := unhide hx j hlt
      obtain ⟨A2, hA2⟩ := unhide HS
      obtain ⟨g, rfl, q0⟩ := unhide HCE wr A2 _ _ hA2.choose_spec.choose_spec.1 j m hm
      obtain ⟨tb, hm16, q1, hT⟩ := unhide HST wr A2 j m hA2 hm hlt
      have HT := hide hT
      have hm1 : (m : Int) < 16 := by omega
      have hm0 : (0 : Int) ≤ (m : Int) := by omega
      clear HS hA2 hm HCE HST hx hT
      go_wp2_with fail
      refine (unhide HT).mono ?_
      rintro e w3 ⟨rfl, h3⟩
      clear HT q0 q1
      go_wp2_with fail
      go_roundw
      case rel => exact ⟨j + 1, by go_num, by omega, h3⟩
      case measure => simp [intOf]; omega
    · have h1 : ¬ (j : Int) < (N : Int) := by omega
      have HA := hide (by
        obtain ⟨A2, hA2⟩ := unhide HS
        have : j = N := by omega
        subst this
        exact unhide hfin wr A2 hA2)
      clear HS HCE HST hx hfin
      go_wp2_with fail
      go_ret
      exact ⟨rfl, HA⟩
set_option maxRecDepth 20000 in
theorem sfork_nil (w : World) : Calls Tryz.prog 9 #[.pointer none] w fun e w' => e = .returned (.pointer none) ∧ w' = w := by
  have HN := hide (sisnil_nil w)
  go_enter Tryz.func9, Tryz.ntmps9
  go_wp2_with fail
  refine (unhide HN).mono ?_
  rintro e w1 ⟨rfl, hw⟩
  subst hw
  go_wp2_with fail
  go_ret
  exact ⟨rfl, rfl⟩

end Go.Proofs.YtemologkibcdoaaGreatDoor

/- Numbers of open files: Pipe, Open. -/
namespace Go.Proofs.YtemologkibcdoaaGreatDoor
open Go.RowKit Go.Maps

/-- A block that a call has made. -/
theorem MX.adopt {w w' : World} {f q nb n : Nat} {B : Bas} {Z : Nat → Prop} {s : NS} {H : Hp} (M : MX w f q Z s nb n B H) (hb : Below w.heap.size w w') {p : Nat} (hp : w.heap.size ≤ p) {tg : Tg} {ty : Nat} {cs : Array Value} (h : Blk w' p ty cs) : MX w' f q Z s nb n B (upd H p ⟨tg, ty, cs⟩) := by
  have hn := M.noth hp
  refine M.grow (S := fun _ => False) (grownS_of_below hb) (fun k hk => hk.elim) (fun k o hk => ?_) (fun k hlt hz hk => ?_)
  · by_cases e : k = p
    · subst e
      rw [upd_self] at hk
      injection hk with hk
      subst hk
      refine .inr ⟨h, M.new k hp, ?_⟩
      have := M.fx.blk.lt
      omega
    · rw [upd_ne _ _ e] at hk
      exact .inl ⟨fun h => h, hk⟩
  · rw [upd_ne _ _ (by omega)]
    exact hk
def Fay.addP (L : Fay) (p pb : Nat) : Fay := { L with pb := fun j => if j = p then pb else L.pb j }
theorem addP_itf {A : AS} (L : Fay) (i pb : Nat) {y : Wh} (h : WhOk A y) : itf (L.addP A.pp.length pb) i y = itf L i y := by
  cases y with
  | rd k =>
    have : k < A.pp.length := h
    show Value.iface _ (.agg #[ptrV (if k = A.pp.length then pb else L.pb k)]) = _
    rw [if_neg (by omega)]
    rfl
  | wr k =>
    have : k < A.pp.length := h
    show Value.iface _ (.agg #[ptrV (if k = A.pp.length then pb else L.pb k)]) = _
    rw [if_neg (by omega)]
    rfl
  | _ => rfl
theorem Lies.newPp {H : Hp} {f x c p : Nat} {L : Fay} {sb : List Nat} {A : AS} (h : Lies H f x L sb A c) (hw : ∀ (i : Nat) (t : Th), A.th[i]? = some t → WhOk A t.wh) (hp : H p = none) {cs : Array Value} (hc : ∀ w, Blk w p 158 cs → Pi.PAt w p Pi.np0) : Lies (upd H p ⟨.pipe A.pp.length, 158, cs⟩) f x (L.addP A.pp.length p) sb (nwPp A) c := by
  have h2 := h.ext (upd_new hp ⟨.pipe A.pp.length, 158, cs⟩)
  have hk : ∀ k, k < A.pp.length → (L.addP A.pp.length p).pb k = L.pb k := fun k hk => if_neg (by omega)
  refine ⟨h2.fil, fun i t h1 => ?_, fun i t h1 => ?_, fun k y h1 => ?_, h2.sk, h2.st, h2.len⟩
  · have := h2.th i t h1
    unfold thC at this ⊢
    rw [addP_itf L i p (hw i t h1)]
    exact this
  · have := h2.ob i t h1
    cases hy : t.wh <;> rw [hy] at this <;> exact this
  · rcases get_app h1 with ⟨rfl, rfl⟩ | ⟨hlt, h1⟩
    · have e : (L.addP A.pp.length p).pb A.pp.length = p := if_pos rfl
      rw [e]
      exact ⟨cs, upd_self _ _ _, hc⟩
    · rw [hk k hlt]
      exact h2.pp k y h1
/-- The two first of some numbers. -/
def twoN {α : Type} (f : Nat → Nat → α) (g : α) : List Nat → α
  | a :: c :: _ => f a c
  | _ => g
theorem twoN_no {α : Type} (f : Nat → Nat → α) (g : α) : ∀ ns : List Nat, ns.length < 2 → twoN f g ns = g
  | [], _ => rfl
  | [_], _ => rfl
  | a :: c :: r, h => by simp at h; omega
/-- What Pipe leaves and answers. -/
def pipA (A : AS) (k : Nat) : AS := twoN (fun a c => takeA (nwA (takeA (nwA (nwPp A) (.rd A.pp.length)) k (a : Int) A.th.length) (.wr A.pp.length)) k (c : Int) (A.th.length + 1)) A (numsL (row A k) false)
def pipR (A : AS) (k : Nat) : Int × Int × Int := twoN (fun a c => ((a : Int), (c : Int), 0)) (0, 0, 29) (numsL (row A k) false)
theorem nums_free {l : List (Option Nat)} (hl : l.length = 16) {j : Nat} (h : j ∈ numsL l false) : j < 16 ∧ l[j]? = some none := by
  have h1 := List.mem_filter.1 h
  have hj := List.mem_range.1 h1.1
  refine ⟨hj, ?_⟩
  have h2 : ((l[j]?).join).isSome = false := by simpa using h1.2
  rw [List.getElem?_eq_getElem (by omega)] at h2 ⊢
  cases h3 : l[j] with
  | none => rfl
  | some i => rw [h3] at h2; cases h2
set_option maxRecDepth 20000 in
set_option maxHeartbeats 8000000 in
theorem spipe_any {w : World} {f q nb n x : Nat} {B : Bas} {Z : Nat → Prop} {A : AS} {sb : List Nat} {H : Hp} {L : Fay} (F : FH w f q Z A nb n B x sb H L) {k b : Nat} {l : List (Option Nat)} (hb : sb[k]? = some b) (hl : A.st[k]? = some l) (K : AOk A n) (hn : n ≤ 8000) : Calls Tryz.prog 24 #[.pointer (some ⟨b, 0, none⟩)] w fun e w' => e = .returned (.tuple #[.int .i64 (pipR A k).1, .int .i64 (pipR A k).2.1, .int .i64 (pipR A k).2.2]) ∧ Hid ((∃ H' L', FH w' f q Z (pipA A k) nb (n + 4) B x sb H' L') ∧ AOk (pipA A k) (n + 4)) := by
  obtain ⟨c0, c1, f1, hblk, hl16⟩ := F.setCell hb hl
  have HNI := hide (sisnil_any hblk)
  have HNU := hide (numbers_any hblk hl16 false)
  unfold pipA pipR
  rw [row_at hl]
  have hfr : ∀ j, j ∈ numsL l false → j < 16 ∧ l[j]? = some none := fun j hj => nums_free hl16 hj
  have hnd := nums_nodup l false
  have hln := nums_le l false
  obtain ⟨ns, hns⟩ : ∃ ns, ns = numsL l false := ⟨_, rfl⟩
  rw [← hns] at HNU hfr hnd hln ⊢
  have HF := hide F
  by_cases h2 : ns.length < 2
  · rw [twoN_no _ _ _ h2, twoN_no _ _ _ h2]
    have HFIN : Hid (∀ w', Below w.heap.size w w' → (∃ H' L', FH w' f q Z A nb (n + 4) B x sb H' L') ∧ AOk A (n + 4)) := hide (fun w' hb => ⟨⟨H, L, (F.below hb).mono (by omega)⟩, K.mono (by omega)⟩)
    have hl2 : (ns.length : Int) < 2 := by omega
    clear F K hb hl c0 c1 f1 hblk hl16 hfr hnd hln hns HF
    go_enter Tryz.func24, Tryz.ntmps24
    go_wp2_with fail
    refine (unhide HNI).mono ?_
    rintro e w1 ⟨rfl, hw⟩
    subst hw
    go_wp2_with fail
    refine (unhide HNU).mono ?_
    rintro e w2 ⟨v, rfl, h1⟩
    obtain ⟨hrow, hbel⟩ := unhide h1
    obtain ⟨ad, cap, rfl, hcap, hmx, hcell⟩ := hrow
    have HA := hide (unhide HFIN w2 hbel)
    obtain ⟨N, hN⟩ : ∃ N, N = ns.length := ⟨_, rfl⟩
    rw [← hN] at hl2 ⊢
    clear HNU HNI HFIN h1 hbel hcell hcap hN h2
    go_wp2_with fail
    go_returns
    exact ⟨rfl, HA⟩
  · obtain ⟨a, c, r, rfl⟩ : ∃ a c r, ns = a :: c :: r := by
      match ns, h2 with
      | a :: c :: r, _ => exact ⟨a, c, r, rfl⟩
      | [a], h => exact absurd (show 1 < 2 by decide) h
      | [], h => exact absurd (show 0 < 2 by decide) h
    simp only [twoN]
    obtain ⟨a1, a2⟩ := hfr a List.mem_cons_self
    obtain ⟨b1, b2⟩ := hfr c (List.mem_cons_of_mem _ List.mem_cons_self)
    have hac : a ≠ c := fun e => (List.nodup_cons.1 hnd).1 (by rw [e]; exact List.mem_cons_self)
    have hln2 : ¬ ((r.length + 1 + 1 : Nat) : Int) < 2 := by omega
    obtain ⟨N, hN⟩ : ∃ N, N = r.length + 1 + 1 := ⟨_, rfl⟩
    have hN2 : 1 < N := by omega
    rw [← hN] at hln2
    have hNl : (a :: c :: r).length = N := by rw [hN]; rfl
    have K1 := ok_nwPp K
    have K2 := ok_new K1 (y := .rd A.pp.length) (by show A.pp.length < (A.pp ++ [_]).length; simp)
    have hg1 : (nwA (nwPp A) (.rd A.pp.length)).th[A.th.length]? = some ⟨.rd A.pp.length, 0⟩ := nw_get (nwPp A) _
    have K3 := ok_take K2 hl a2 hg1
    have hst3 : (takeA (nwA (nwPp A) (.rd A.pp.length)) k (a : Int) A.th.length).st[k]? = some (l.set a (some A.th.length)) := by
      rw [take_st (A := nwA (nwPp A) (.rd A.pp.length)) hl hg1]
      exact setl_at hl
    have hlc : (l.set a (some A.th.length))[c]? = some none := by rw [List.getElem?_set_ne hac]; exact b2
    have hpp3 : (takeA (nwA (nwPp A) (.rd A.pp.length)) k (a : Int) A.th.length).pp = (nwPp A).pp := by
      unfold takeA
      rw [hg1]
      exact (many_len _ _ _).2.2
    have hln3 : (takeA (nwA (nwPp A) (.rd A.pp.length)) k (a : Int) A.th.length).th.length = A.th.length + 1 := by
      rw [take_len]
      show (A.th ++ [_]).length = _
      simp
    have K4 := ok_new K3 (y := .wr A.pp.length) (by show A.pp.length < _; rw [hpp3]; show A.pp.length < (A.pp ++ [_]).length; simp)
    obtain ⟨A3, hA3⟩ : ∃ A3, A3 = takeA (nwA (nwPp A) (.rd A.pp.length)) k (a : Int) A.th.length := ⟨_, rfl⟩
    rw [← hA3] at K3 hst3 hpp3 hln3 K4 ⊢
    have K5 := ok_take K4 hst3 hlc (nw_get A3 _)
    rw [hln3] at K5
    have HK5 := hide K5
    -- what the calls make of it
    have HP : Hid (∀ w2 (Z2 : Nat → Prop) (B2 : Bas), (∃ H2, FH w2 f q Z2 A nb n B2 x sb H2 L) → Calls Tryz.prog 48 #[] w2 fun e w' => ∃ p, e = .returned (.pointer (some ⟨p, 0, none⟩)) ∧ Hid (∃ H2, MX w' f q Z2 (nwPp A).s nb n B2 H2 ∧ Lies H2 f x (L.addP A.pp.length p) sb (nwPp A) (openA (nwPp A)))) := hide (fun w2 Z2 B2 h => by
      obtain ⟨H2, F2⟩ := h
      refine (Pi.new_any w2).mono (fun e w' h => ?_)
      obtain ⟨p, e1, e2, e3, e4⟩ := h
      obtain ⟨cs, e5, e6⟩ := pat_cs e2
      exact ⟨p, e1, hide ⟨_, F2.mx.adopt e3 e4 e5, F2.li.newPp K.wh (F2.mx.noth e4) e6⟩⟩)
    have HT1 : Hid (∀ w2 (Z2 : Nat → Prop) (B2 : Bas) (p : Nat), (∃ H2, MX w2 f q Z2 (nwPp A).s nb n B2 H2 ∧ Lies H2 f x (L.addP A.pp.length p) sb (nwPp A) (openA (nwPp A))) → Calls Tryz.prog 34 #[.pointer (some ⟨b, 0, none⟩), .int .i64 (a : Int), .pointer (some ⟨w2.heap.size, 0, none⟩)] (w2.alloc (.cells #[.iface 117 (.agg #[.pointer (some ⟨p, 0, none⟩)]), .int .i64 0] 98)) fun e w' => e = .returned (.tuple #[]) ∧ Hid (∃ H2 L2, FH w' f q Z2 A3 nb n B2 x sb H2 L2 ∧ L2.pb A.pp.length = p)) := hide (fun w2 Z2 B2 p h => by
      obtain ⟨H2, M2, L2⟩ := h
      have F2 := FH.newTh (A := nwPp A) M2 L2 K1.row (y := .rd A.pp.length) (ob := 0) (v := .iface 117 (.agg #[.pointer (some ⟨p, 0, none⟩)])) (by simp [itf, Fay.add, Fay.addP, ptrV]) trivial
      have := ftake_any F2 hb hl a1 hg1 (Nat.zero_le _) (by have := K2.open; omega)
      rw [show ((L.addP A.pp.length p).add (nwPp A).th.length w2.heap.size 0).tb A.th.length = w2.heap.size by simp [Fay.add, nwPp]] at this
      refine this.mono (fun e w' h => ⟨h.1, hide ?_⟩)
      obtain ⟨H', F3⟩ := unhide h.2
      rw [hA3]
      exact ⟨H', _, F3, by simp [Fay.add, Fay.addP]⟩)
    have HT2 : Hid (∀ w2 (Z2 : Nat → Prop) (B2 : Bas) (p : Nat), (∃ H2 L2, FH w2 f q Z2 A3 nb n B2 x sb H2 L2 ∧ L2.pb A.pp.length = p) → Calls Tryz.prog 34 #[.pointer (some ⟨b, 0, none⟩), .int .i64 (c : Int), .pointer (some ⟨w2.heap.size, 0, none⟩)] (w2.alloc (.cells #[.iface 119 (.agg #[.pointer (some ⟨p, 0, none⟩)]), .int .i64 0] 98)) fun e w' => e = .returned (.tuple #[]) ∧ Hid (∃ H2 L2, FH w' f q Z2 (takeA (nwA A3 (.wr A.pp.length)) k (c : Int) (A.th.length + 1)) nb n B2 x sb H2 L2)) := hide (fun w2 Z2 B2 p h => by
      obtain ⟨H2, L2, F2, hp⟩ := h
      have F3 := FH.newTh (A := A3) F2.mx F2.li K3.row (y := .wr A.pp.length) (ob := 0) (v := .iface 119 (.agg #[.pointer (some ⟨p, 0, none⟩)])) (by simp [itf, Fay.add, ptrV, hp]) trivial
      have := ftake_any F3 hb hst3 b1 (nw_get A3 _) (Nat.zero_le _) (by have := K4.open; omega)
      rw [show (L2.add A3.th.length w2.heap.size 0).tb A3.th.length = w2.heap.size by simp [Fay.add], hln3] at this
      refine this.mono (fun e w' h => ⟨h.1, hide ?_⟩)
      obtain ⟨H', F4⟩ := unhide h.2
      exact ⟨H', _, F4⟩)
    obtain ⟨AE, hAE⟩ : ∃ AE, AE = takeA (nwA A3 (.wr A.pp.length)) k (c : Int) (A.th.length + 1) := ⟨_, rfl⟩
    rw [← hAE] at HT2 HK5 ⊢
    clear K hb hl c0 c1 f1 hblk hl16 hfr hnd hln hns a1 a2 b1 b2 hac K1 K2 K3 hst3 hlc hpp3 hln3 K4 K5 h2 hA3 hAE F hg1
    rw [hNl] at *
    go_enter Tryz.func24, Tryz.ntmps24
    go_wp2_with fail
    refine (unhide HNI).mono ?_
    rintro e w1 ⟨rfl, hw⟩
    subst hw
    go_wp2_with fail
    refine (unhide HNU).mono ?_
    rintro e w2 ⟨v, rfl, h1⟩
    obtain ⟨hrow, hbel⟩ := unhide h1
    obtain ⟨ad, cap, rfl, hcap, hmx, hcell⟩ := hrow
    have F1 := (unhide HF).renew hbel
    obtain ⟨g, rfl, g2, g3, g4⟩ := hcell 0 a rfl
    obtain ⟨g', hg', g5, _⟩ := hcell 1 c rfl
    injection hg' with hg'
    injection hg' with hg'
    subst hg'
    have HCE : Hid (∀ w3 A2 n2 sb2 H2 L2, FH w3 f q (Zup w1 w2 Z) A2 nb n2 ⟨B.w, w2, Zup w1 w2 Z⟩ x sb2 H2 L2 → w3.cell? ⟨g, 0, none⟩ = some (.int .i64 (a : Int)) ∧ w3.cell? ⟨g, 1, none⟩ = some (.int .i64 (c : Int))) := hide (fun w3 A2 n2 sb2 H2 L2 G => by
      have hg : GrownS w2 w3 (Zup w1 w2 Z) := G.mx.env.kept
      have hz : ¬ Zup w1 w2 Z g := by
        rintro (h | h)
        · have := h.2
          omega
        · omega
      have := hg.block g g3 hz
      simp only [World.cell?] at g2 g5 ⊢
      rw [this]
      exact ⟨g2, g5⟩)
    have HNP := hide (unhide HP w2 (Zup w1 w2 Z) ⟨B.w, w2, Zup w1 w2 Z⟩ ⟨H, F1.rebased⟩)
    have HFIN : Hid (∀ w3, (∃ H2 L2, FH w3 f q (Zup w1 w2 Z) AE nb n ⟨B.w, w2, Zup w1 w2 Z⟩ x sb H2 L2) → (∃ H' L', FH w3 f q Z AE nb (n + 4) B x sb H' L') ∧ AOk AE (n + 4)) := hide (fun w3 h => by
      obtain ⟨H2, L2, G⟩ := h
      exact ⟨⟨H2, L2, ((unhide HF).home hbel (F1.back G).1).mono (by omega)⟩, (unhide HK5).mono (by omega)⟩)
    have HCM : Hid (∀ w3 p, (∃ H2, MX w3 f q (Zup w1 w2 Z) (nwPp A).s nb n ⟨B.w, w2, Zup w1 w2 Z⟩ H2 ∧ Lies H2 f x (L.addP A.pp.length p) sb (nwPp A) (openA (nwPp A))) → w3.cell? ⟨g, 0, none⟩ = some (.int .i64 (a : Int))) := hide (fun w3 p h => by
      obtain ⟨H2, M2, L2⟩ := h
      exact (unhide HCE w3 (nwPp A) n sb H2 _ ⟨M2, L2⟩).1)
    clear HNU HNI HP h1 hcell F1 HF hcap HK5 g2 g3 g4 g5 hbel
    go_wp2_with fail
    refine (unhide HNP).mono ?_
    rintro e w3 ⟨p, rfl, h3⟩
    have q1 := unhide HCM w3 p (unhide h3)
    have HC1 := hide (unhide HT1 w3 _ _ p (unhide h3))
    clear HNP h3 HCM HT1
    go_wp2_with fail
    refine (unhide HC1).mono ?_
    rintro e w4 ⟨rfl, h4⟩
    obtain ⟨q2, q3⟩ : w4.cell? ⟨g, 0, none⟩ = some (.int .i64 (a : Int)) ∧ w4.cell? ⟨g, 1, none⟩ = some (.int .i64 (c : Int)) := by
      obtain ⟨H2, L2, G, _⟩ := unhide h4
      exact unhide HCE w4 _ _ _ _ _ G
    have HC2 := hide (unhide HT2 w4 _ _ p (unhide h4))
    clear HC1 h4 HT2 q1
    go_wp2_with fail
    refine (unhide HC2).mono ?_
    rintro e w5 ⟨rfl, h5⟩
    obtain ⟨q4, q5⟩ : w5.cell? ⟨g, 0, none⟩ = some (.int .i64 (a : Int)) ∧ w5.cell? ⟨g, 1, none⟩ = some (.int .i64 (c : Int)) := by
      obtain ⟨H2, L2, G⟩ := unhide h5
      exact unhide HCE w5 _ _ _ _ _ G
    have HBD : Hid (∀ j, (∃ H2 L2, FH (w5.drewN j) f q (Zup w1 w2 Z) AE nb n ⟨B.w, w2, Zup w1 w2 Z⟩ x sb H2 L2)) := hide (fun j => by
      obtain ⟨H2, L2, G⟩ := unhide h5
      exact ⟨H2, L2, G.below (below_drew w5 j)⟩)
    have HA := hide (fun j => unhide HFIN _ (unhide HBD j))
    clear HC2 h5 HCE q2 q3 HFIN HBD
    go_wp2_with fail
    go_quiet (fail)
    go_wp2
    go_returns
    exact ⟨rfl, hide (unhide HA _)⟩

end Go.Proofs.YtemologkibcdoaaGreatDoor

/-
  Directories (stage 13): printDir, Print.
  Directories (stage 13): the chapter's examples.
  Directories (stage 13): a call of the law's: Few, Do.
-/
import Derived.Test.YtdmmjidekpgmgaaGreatDoorM20
/- Directories (stage 13): printDir, Print. -/
namespace Go.Proofs.YtdmmjidekpgmgaaGreatDoor
open Go.RowKit Go.Maps

theorem sum_take {α : Type} (f : α → Nat) {E : List α} {j : Nat} {x : α} (h : E[j]? = some x) : ((E.take (j + 1)).map f).sum = ((E.take j).map f).sum + f x := by
  rw [List.take_add_one, h]
  simp
theorem sum_take_le {α : Type} (f : α → Nat) (E : List α) (j : Nat) : ((E.take j).map f).sum ≤ (E.map f).sum := by
  have h : (E.map f).sum = ((E.take j).map f).sum + ((E.drop j).map f).sum := by
    conv => lhs; rw [← List.take_append_drop j E]
    rw [List.map_append, List.sum_append]
  omega
theorem len_le_sum {α : Type} (f : α → Nat) (h : ∀ x, 1 ≤ f x) : ∀ E : List α, E.length ≤ (E.map f).sum
  | [] => Nat.zero_le _
  | x :: E => by
    have := len_le_sum f h E
    have := h x
    simp only [List.length_cons, List.map_cons, List.sum_cons]
    omega
/-- How far printDir has come. -/
structure PdS (w0 W wr : World) (q : Nat) (Y : Nat → Prop) (s : NS) (nb n : Nat) (B : World) (out : List UInt8) (v : Value) (l : List (List UInt8)) (G : List UInt8 → List UInt8) (d : Int) (j : Nat) : Prop where
  pr : PrX w0 wr q Y s nb n B (out ++ (l.take j).flatMap G)
  row : TRow wr v l
  kept : Lib.OthersKept 5 (some w0.heap.size) W wr
  len : ((l.take j).flatMap G).length ≤ KB n * (((entN s.L d).take j).map (cost s)).sum
set_option maxRecDepth 20000 in
set_option maxHeartbeats 4000000 in
theorem printDir_step {w0 : World} {q nb n : Nat} {B : World} {m : Nat} {Y : Nat → Prop} {s : NS} (hpw : PowB B) (hn : n ≤ 1000) (PD : ∀ k, m = k + 1 → PDAt w0 q Y s nb n B k) : PDAt w0 q Y s nb n B m := by
  intro W d p out H hd hnm hcb hp ho
  have hr := H.nd.ok.rng hd
  have hlt0 : w0.heap.size < W.heap.size := by
    rcases H.bld with h | h
    · obtain ⟨_, v, hb, _⟩ := h
      exact (Array.getElem?_eq_some_iff.1 hb).1
    · obtain ⟨_, v, hb, _⟩ := h
      exact (Array.getElem?_eq_some_iff.1 hb).1
  have hsum := cost_sum H.nd.ok.inv hd hnm
  have hlen : (inL s.L d).length = (entN s.L d).length := by unfold inL entN; rw [List.length_map]
  have hle1 := len_le_sum (cost s) (fun x => by unfold cost; omega) (entN s.L d)
  have hln : (inL s.L d).length ≤ 1000 := by have := in_len H.nd.ok d; omega
  obtain ⟨G, hG⟩ : ∃ G : List UInt8 → List UInt8, G = fun t => prN (prD s (m - 1)) s (findN s d t) (p ++ [47] ++ t) := ⟨_, rfl⟩
  have HRES : Hid (prD s m d p = (inL s.L d).flatMap G) := hide (by
    cases m with
    | zero =>
      have : inL s.L d = [] := List.eq_nil_of_length_eq_zero (by omega)
      rw [this]
      rfl
    | succ k => rw [hG]; rfl)
  have HRI := hide (rising_any H.nd (by omega) d (by omega))
  obtain ⟨l, hl⟩ : ∃ l, l = inL s.L d := ⟨_, rfl⟩
  have HL := hide hl
  rw [← hl] at HRES HRI hln hlen
  obtain ⟨RR, hRR⟩ : ∃ RR, RR = prD s m d p := ⟨_, rfl⟩
  rw [← hRR] at HRES ⊢
  have HENT : Hid (∀ j t, l[j]? = some t → ∃ x, (entN s.L d)[j]? = some x ∧ x.name = t ∧ findN s d t = x.node ∧ x ∈ s.L) := hide (fun j t ht => by
    rw [hl] at ht
    unfold inL at ht
    rw [List.getElem?_map] at ht
    obtain ⟨x, hx, e⟩ := Option.map_eq_some_iff.1 ht
    have hm := ent_mem.1 (List.mem_of_getElem? hx)
    exact ⟨x, hx, e, by rw [← e]; exact find_of H.nd.ok.inv.srt hm.1 hm.2 rfl, hm.1⟩)
  have HOK := hide H.nd.ok
  have HPNB : Hid (∀ (w1 : World) (t out' : List UInt8) (x : Nm), x ∈ s.L → x.name = t → findN s d t = x.node → PrX w0 w1 q Y s nb n B out' → out'.length + KB n * cost s x ≤ 1000000000 → cost s x ≤ cb s d → Calls Tryz.prog 124 #[.pointer (some ⟨q, 0, none⟩), .pointer (some ⟨w0.heap.size, 0, none⟩), .int .i64 (findN s d t), .string (BA (p ++ [47] ++ t))] w1 fun e w' => e = .returned (.tuple #[]) ∧ Hid (PrTo w0 w1 w' q Y s nb n B out' (G t) ∧ (G t).length ≤ KB n * cost s x)) := hide (fun w1 t out' x hx hxt hfx hpr hol hcx => by
    have hnode := H.nd.ok.node hx
    have hnm1 := H.nd.ok.nm x hx
    have htl : t.length ≤ 32 := by rw [← hxt]; exact hnm1.len
    have hc1 : 1 ≤ cost s x := by unfold cost; omega
    obtain ⟨k, hk⟩ : ∃ k, m = k + 1 := ⟨m - 1, by omega⟩
    have hcst : cst s x.node = cost s x := rfl
    have hpl : (p ++ [47] ++ t).length ≤ p.length + 33 := by simp only [List.length_append, List.length_cons, List.length_nil]; omega
    have h := printNode_any hpw (PD k hk) x.node (p ++ [47] ++ t) out' hpr hn hnode (fun hk2 => by
      have hcc : cost s x = 1 + cb s x.node := by unfold cost; rw [if_pos hk2]
      exact ⟨NV.node1 H.nd.ok.inv.names hx, by omega, by omega⟩) (by omega) (by rw [hcst]; exact hol)
    rw [hcst] at h
    rw [hfx]
    have e : G t = prN (prD s k) s x.node (p ++ [47] ++ t) := by
      rw [hG]
      simp only
      rw [hfx, hk]
      rfl
    rw [e]
    exact h)
  have HLK : Hid (∀ w1 out' t, PrX w0 w1 q Y s nb n B out' → t.length ≤ 32 → Calls Tryz.prog 92 #[.pointer (some ⟨q, 0, none⟩), .agg #[.int .i64 d, .string (BA t)]] w1 fun e w' => e = .returned (.tuple #[.int .i64 (findN s d t), .bool (isN s d t)]) ∧ Below w1.heap.size w1 w') := hide (fun w1 out' t h ht => lookup_any h.nd d t (by omega) (by omega))
  have HSUM := hide hsum
  have HH := hide H
  have HO := hide ho
  have hpp : p.length ≤ 40000 := by omega
  have HC1 : Hid (∀ t, BA p ++ (⟨#[47]⟩ : ByteArray) ++ BA t = BA (p ++ [47] ++ t)) := hide (fun t => by
    rw [show (⟨#[47]⟩ : ByteArray) = BA [47] from rfl, BA_add, BA_add])
  have HLT0 := hide hlt0
  obtain ⟨len, hlenn⟩ : ∃ len, len = l.length := ⟨_, rfl⟩
  have HLN := hide hlenn
  rw [← hlenn] at hln hlen
  have HLE := hide hlen
  clear PD H hd hnm hcb ho hr hlt0 hsum hle1 hG hl hRR hlen hlenn hp
  go_enter Tryz.func73, Tryz.ntmps73
  go_wp2_with fail
  refine (unhide HRI).mono ?_
  rintro e w1 ⟨v, rfl, HR1⟩
  obtain ⟨ad, cap, hv, _, _⟩ := (unhide HR1).1.len
  rw [← unhide HLN] at hv
  subst hv
  obtain ⟨PX, hPX⟩ : ∃ PX : World → Nat → Prop, PX = fun wr j => PdS w0 W wr q Y s nb n B out (.slice ad len cap) l G d j := ⟨_, rfl⟩
  have HX1 : Hid (∀ wr j, PX wr j → PdS w0 W wr q Y s nb n B out (.slice ad len cap) l G d j) := hide (fun wr j h => by rw [hPX] at h; exact h)
  have HX2 : Hid (∀ wr j, PdS w0 W wr q Y s nb n B out (.slice ad len cap) l G d j → PX wr j) := hide (fun wr j h => by rw [hPX]; exact h)
  have HS0 : Hid (PX w1 0) := hide (unhide HX2 _ _ ⟨by
    show PrX w0 w1 q Y s nb n B (out ++ [])
    rw [List.append_nil]
    exact (unhide HH).below (unhide HR1).2.2, (unhide HR1).1, kept_of_below (unhide HR1).2.2 _, Nat.zero_le _⟩)
  have HNB : Hid (∀ k, (Value.slice ad len cap).ownBlock = some k → k ≠ w0.heap.size) := hide (fun k hk e => by
    have := (unhide HR1).2.1 k hk
    have := unhide HLT0
    omega)
  clear hPX HR1 HRI
  go_wp2_with fail
  go_loopw [16] (fun i wr => ∃ j : Nat, i = .int .i64 (j : Int) ∧ j ≤ len ∧ Hid (PX wr j)) (fun i _ => len - (intOf i).toNat)
  case atStart => exact ⟨0, rfl, Nat.zero_le _, HS0⟩
  case round =>
    clear HS0
    obtain ⟨j, rfl, hjl, HT⟩ := hrel
    have hS := unhide HX1 _ _ (unhide HT)
    by_cases hlt : j < len
    · have hk1 : (j : Int) < (len : Int) := by omega
      have hk0 : (0 : Int) ≤ (j : Int) := by omega
      obtain ⟨t, ht⟩ : ∃ t, l[j]? = some t := ⟨_, List.getElem?_eq_getElem (by have := unhide HLN; omega)⟩
      obtain ⟨g, hg, cj⟩ := hS.row.at ht
      subst hg
      obtain ⟨x, hx1, hx2, hx3, hx4⟩ := unhide HENT j t ht
      have htl : t.length ≤ 32 := by rw [← hx2]; exact ((unhide HOK).nm x hx4).len
      have hst := sum_take (cost s) hx1
      have hsl := sum_take_le (cost s) (entN s.L d) (j + 1)
      have HCX : Hid (cost s x ≤ cb s d) := hide (by have := unhide HSUM; omega)
      have hmul : KB n * (((entN s.L d).take j).map (cost s)).sum + KB n * cost s x ≤ KB n * cb s d := by
        rw [← Nat.mul_add, ← hst]
        exact Nat.mul_le_mul_left _ (Nat.le_trans hsl (unhide HSUM))
      have HOL : Hid ((out ++ (l.take j).flatMap G).length + KB n * cost s x ≤ 1000000000) := hide (by
        rw [List.length_append]
        have := hS.len
        have := unhide HO
        omega)
      have HLKC := hide (unhide HLK wr _ t hS.pr htl)
      have HFL : Hid ((l.take (j + 1)).flatMap G = (l.take j).flatMap G ++ G t) := hide (by
        rw [List.take_add_one, ht]
        simp)
      have HST := hide hst
      have HSS := hide hS
      have HXX := hide (And.intro hx2 (And.intro hx3 hx4))
      clear hS HT ht hx1 hx2 hx3 hx4 hst hsl hmul
      go_wp2_with fail
      refine (unhide HLKC).mono ?_
      rintro e w3 ⟨rfl, b3⟩
      have HP3 := hide ((unhide HSS).pr.below b3)
      have HB3 := hide b3
      have HPC := hide (unhide HPNB w3 t _ x (unhide HXX).2.2 (unhide HXX).1 (unhide HXX).2.1 (unhide HP3) (unhide HOL) (unhide HCX))
      clear b3 cj HLKC
      go_wp2_with fail
      rw [unhide HC1]
      refine (unhide HPC).mono ?_
      rintro e w4 ⟨rfl, HP4⟩
      have HN : Hid (PX w4 (j + 1)) := hide (unhide HX2 _ _ ⟨by
        rw [unhide HFL, ← List.append_assoc]
        exact (unhide HP4).1.1, ((unhide HSS).row.below (unhide HB3)).kept (unhide HP4).1.2 (unhide HNB), ((unhide HSS).kept.trans (kept_of_below (unhide HB3) _)).trans (unhide HP4).1.2, by
        rw [unhide HFL, List.length_append, unhide HST, Nat.mul_add]
        have := (unhide HSS).len
        have := (unhide HP4).2
        omega⟩)
      go_wp2_with fail
      go_roundw
      case rel => exact ⟨j + 1, by go_num, by omega, HN⟩
      case measure => simp [intOf]; omega
    · have hk1 : ¬ (j : Int) < (len : Int) := by omega
      have htk : l.take j = l := List.take_of_length_le (by have := unhide HLN; omega)
      have htk2 : (entN s.L d).take j = entN s.L d := List.take_of_length_le (by have := unhide HLE; omega)
      have HZ : Hid (PrX w0 wr q Y s nb n B (out ++ RR) ∧ Lib.OthersKept 5 (some w0.heap.size) W wr ∧ RR.length ≤ KB n * cb s d) := hide (by
        have h1 := hS.pr
        have h2 := hS.len
        rw [htk] at h1 h2
        rw [htk2] at h2
        rw [unhide HRES]
        exact ⟨h1, hS.kept, Nat.le_trans h2 (Nat.mul_le_mul_left _ (unhide HSUM))⟩)
      clear hS HT htk htk2
      go_wp2_with fail
      exact bodyPost_end (res0 rfl _ _) rfl ⟨rfl, HZ⟩
theorem printDir_any {w0 : World} {q nb n : Nat} {B : World} {Y : Nat → Prop} {s : NS} (hpw : PowB B) (hn : n ≤ 1000) : ∀ m, PDAt w0 q Y s nb n B m
  | 0 => printDir_step hpw hn (fun k h => by omega)
  | m + 1 => printDir_step hpw hn (fun k h => by
    have : k = m := by omega
    subst this
    exact printDir_any hpw hn k)
/-- A tree as a text. -/
def prT (s : NS) : List UInt8 := prD s s.L.length 1 []
set_option maxRecDepth 20000 in
set_option maxHeartbeats 1000000 in
theorem print_any {w : World} {f q nb n : Nat} {B : World} {Y : Nat → Prop} {s : NS} (hpw : PowB B) (H : FX w f q Y s nb n B) (hn : n ≤ 1000) : Calls Tryz.prog 22 #[.pointer (some ⟨f, 0, none⟩)] w fun e w' => e = .returned (.string (BA (prT s))) ∧ Below w.heap.size w w' := by
  have HE := hide (empty_any H)
  obtain ⟨W1, hW1⟩ : ∃ W1, W1 = w.alloc (.cells #[.pointer none, .slice none 0 0] 108) := ⟨_, rfl⟩
  have hb1 : Below w.heap.size w W1 := by rw [hW1]; exact (Below.refl _ w).alloc (Nat.le_refl _) _
  have hbd : Lib.IsBuilder 108 5 w.heap.size w.heap.size (Lib.byteCells []) W1 := by rw [hW1]; exact Lib.fresh_isBuilder _ _ w
  have c0 : W1.cell? ⟨f, 0, none⟩ = some (.pointer (some ⟨q, 0, none⟩)) := (H.below hb1).blk.cell 0 rfl
  have hcb : cb s 1 ≤ s.L.length := List.countP_le_length
  have hln := H.nd.ok.len
  have HX : Hid (PrX w W1 q Y s nb n B []) := hide ⟨H.nd.tight.below hb1, hb1, hbd, H.nd.env.le⟩
  have hm : KB n * cb s 1 ≤ 38000 * 1000 := Nat.mul_le_mul (by unfold KB; omega) (by omega)
  have HPD := hide (printDir_any (w0 := w) (q := q) (nb := nb) (n := n) (B := B) (Y := Y) (s := s) hpw hn s.L.length W1 1 [] [] (unhide HX) H.nd.ok.inv.root H.nd.ok.inv.nm1 hcb (by simp only [List.length_nil]; omega) (by simp only [List.length_nil]; omega))
  have HW1 := hide hW1
  have HPR : Hid ([] ++ prD s s.L.length 1 [] = prT s) := hide rfl
  rw [unhide HPR] at HPD
  obtain ⟨R, hR⟩ : ∃ R, R = prT s := ⟨_, rfl⟩
  rw [← hR] at HPD ⊢
  obtain ⟨b, hb⟩ : ∃ b, b = w.heap.size := ⟨_, rfl⟩
  have HBB := hide hb
  rw [← hb] at HPD
  clear H hW1 hb1 hbd hcb hln hm hR hb HPR
  go_enter Tryz.func22, Tryz.ntmps22
  go_wp2_with fail
  refine (unhide HE).mono ?_
  rintro e w1 ⟨rfl, hw1⟩
  have hw2 := hw1.symm
  subst hw2
  clear hw1 HE
  go_upto_region 4 with fail
  rw [← unhide HW1, ← unhide HBB]
  go_wp2_with fail
  refine (unhide HPD).mono ?_
  rintro e w3 ⟨rfl, HP3⟩
  have HST : Hid (Calls Tryz.prog 74 #[.pointer (some ⟨b, 0, none⟩)] w3 fun e w' => e = .returned (.string (BA R)) ∧ Below w.heap.size w w') := hide (by
    rw [unhide HBB]
    exact (Tryz.Builder_String_any w.heap.size w.heap.size R w3 (unhide HP3).1.bld (unhide HP3).1.bel.size).mono fun _ w' h => ⟨h.1, (unhide HP3).1.bel.trans (by first | exact h.2 | exact h.2.2)⟩)
  clear HPD c0
  go_wp2_with fail
  refine (unhide HST).mono ?_
  rintro e w4 ⟨rfl, b4⟩
  have HB4 := hide b4
  clear b4
  go_wp2_with fail
  go_ret
  exact ⟨rfl, unhide HB4⟩

end Go.Proofs.YtdmmjidekpgmgaaGreatDoor

/- Directories (stage 13): the chapter's examples. -/
namespace Go.Proofs.YtdmmjidekpgmgaaGreatDoor
open Go.RowKit Go.Maps

/-- A node without bytes is made: what is left. -/
theorem made_is {s s' : NS} {nb : Nat} {d kind N E : Int} {p : List UInt8} (h : MadeSp s nb d p kind [] N E s') (h1 : (roomN s d p).2.2 = 0) (h2 : makeE s.T kind = 0) : N = makeN s.T kind ∧ E = 0 ∧ s' = ⟨tieT (makeT s.T kind) (makeN s.T kind), putL s.L ⟨(roomN s d p).1, (roomN s d p).2.1, makeN s.T kind⟩, parU s.par (makeN s.T kind) (roomN s d p).1⟩ := by
  obtain ⟨a1, a2, a3⟩ := make_all h2
  have a4 : ndAt (makeT s.T kind) (makeN s.T kind) = some (nd0 kind.toNat) := by rw [a3, if_pos rfl]
  have hx : ndAt (tieT (makeT s.T kind) (makeN s.T kind)) (makeN s.T kind) = some (tieN (nd0 kind.toNat)) := by
    unfold tieT
    rw [a4]
    dsimp only
    rw [set_nd a4, if_pos rfl]
  have hd : MadeSp s nb d p kind [] (makeN s.T kind) 0 ⟨tieT (makeT s.T kind) (makeN s.T kind), putL s.L ⟨(roomN s d p).1, (roomN s d p).2.1, makeN s.T kind⟩, parU s.par (makeN s.T kind) (roomN s d p).1⟩ := .done 0 0 _ _ h1 h2 rfl (.empty _ hx (Int.le_refl _) rfl) (by decide)
  exact h.uniq hd
def aw0 : NS := rootS 9
def aw1 : NS := ⟨tieT (makeT aw0.T 2) 2, putL aw0.L ⟨1, [97], 2⟩, parU aw0.par 2 1⟩
def aw2 : NS := ⟨tieT (makeT aw1.T 1) 3, putL aw1.L ⟨2, [102], 3⟩, parU aw1.par 3 2⟩
theorem aw_room1 : roomN aw0 1 [97] = (1, [97], 0) := by kernel_rfl
theorem aw_make1 : makeE aw0.T 2 = 0 ∧ makeN aw0.T 2 = 2 := ⟨by kernel_rfl, by kernel_rfl⟩
theorem aw_room2 : roomN aw1 1 [97, 47, 102] = (2, [102], 0) := by kernel_rfl
theorem aw_make2 : makeE aw1.T 1 = 0 ∧ makeN aw1.T 1 = 3 := ⟨by kernel_rfl, by kernel_rfl⟩
theorem aw_walk : walkN aw2 1 [47, 97, 47, 46, 46, 47, 97, 47, 46, 47, 102] true = (3, 0) := by kernel_rfl
theorem aw_pl1 : placeN aw2 1 [97] = (1, [97], 0) := by kernel_rfl
theorem aw_pl2 : placeN aw2 1 [97, 47, 98] = (2, [98], 0) := by kernel_rfl
theorem aw_find1 : findN aw2 1 [97] = 2 := by kernel_rfl
theorem aw_find2 : findN aw2 2 [98] = 0 := by kernel_rfl
theorem aw_nm : namesOf (ndAt aw2.T 2) = 1 := by kernel_rfl
theorem aw_isD : isD aw2 2 = true := by kernel_rfl
theorem aw_ren : renE aw2 (placeN aw2 1 [97]) (placeN aw2 1 [97, 47, 98]) (findN aw2 (placeN aw2 1 [97]).1 (placeN aw2 1 [97]).2.1) (findN aw2 (placeN aw2 1 [97, 47, 98]).1 (placeN aw2 1 [97, 47, 98]).2.1) = 35 := by
  rw [aw_pl1, aw_pl2]
  unfold renE
  rw [if_neg (by decide), if_neg (by decide)]
  show (if findN aw2 1 [97] = 0 ∨ namesOf (ndAt aw2.T 2) = 0 then (23 : Int) else if findN aw2 1 [97] = findN aw2 2 [98] then 0 else if isD aw2 (findN aw2 1 [97]) = true ∧ belP aw2 2 (findN aw2 1 [97]) = true then 35 else _) = 35
  rw [aw_find1, aw_find2, aw_nm, if_neg (by decide), if_neg (by decide), if_pos ⟨aw_isD, bel_iff.2 ⟨0, rfl⟩⟩]
theorem aw_rmdir : rmdirE aw2 1 [97] = 26 := by kernel_rfl
set_option maxRecDepth 20000 in
set_option maxHeartbeats 1000000 in
theorem awake_any (w : World) (E : EnvB w w) : Calls Tryz.prog 11 #[] w fun e w' => e = .returned (.bool true) ∧ Below w.heap.size w w' := by
  have HN := hide (nnew_any 9 9 w E (by decide) (by decide) (by decide) (by decide))
  clear E
  go_enter Tryz.func11, Tryz.ntmps11
  go_wp2_with fail
  refine (unhide HN).mono ?_
  rintro e w1 ⟨f, q, rfl, HW⟩
  obtain ⟨Y, hfx, hY, hf, hb1⟩ := unhide HW
  have HYB := hide hY
  have HB1 := hide hb1
  have HFX := hide hfx
  have HM1 := hide (mkdir_any hfx (by decide) 1 [97] (by decide) (by decide))
  clear hfx hY hf hb1 HW HN
  go_wp2_with fail
  refine (unhide HM1).mono ?_
  rintro e w2 ⟨E1, rfl, HX1⟩
  obtain ⟨N1, s1, m1, fx1⟩ := unhide HX1
  obtain ⟨_, e1, e2⟩ := made_is m1 (by show (roomN aw0 1 [97]).2.2 = 0; rw [aw_room1]) aw_make1.1
  have e3 : s1 = aw1 := by
    rw [e2]
    show (⟨_, putL aw0.L ⟨(roomN aw0 1 [97]).1, (roomN aw0 1 [97]).2.1, makeN aw0.T 2⟩, parU aw0.par (makeN aw0.T 2) (roomN aw0 1 [97]).1⟩ : NS) = aw1
    rw [aw_room1]
    show (⟨tieT (makeT aw0.T 2) (makeN aw0.T 2), putL aw0.L ⟨1, [97], makeN aw0.T 2⟩, parU aw0.par (makeN aw0.T 2) 1⟩ : NS) = aw1
    rw [aw_make1.2]
    rfl
  subst e1
  subst e3
  have HF2 := hide fx1
  have HM2 := hide (make_any fx1 (by decide) 1 [97, 47, 102] (by decide) (by decide))
  clear m1 e2 fx1 HX1 HM1
  go_wp2_with fail
  refine (unhide HM2).mono ?_
  rintro e w3 ⟨N2, E2, rfl, HX2⟩
  obtain ⟨s2, m2, fx2⟩ := unhide HX2
  obtain ⟨e0, e1, e2⟩ := made_is m2 (by rw [aw_room2]) aw_make2.1
  have e3 : s2 = aw2 := by
    rw [e2, aw_room2, aw_make2.2]
    rfl
  rw [aw_make2.2] at e0
  subst e0
  subst e1
  subst e3
  have HF3 := hide fx2
  have HWK := hide (walk_any fx2 1 [47, 97, 47, 46, 46, 47, 97, 47, 46, 47, 102] true (by decide) (by decide))
  rw [aw_walk] at HWK
  clear m2 e2 fx2 HX2 HM2
  go_wp2_with fail
  refine (unhide HWK).mono ?_
  rintro e w4 ⟨rfl, b4⟩
  have HF4 := hide ((unhide HF3).below b4)
  have HRN := hide (rename_any (unhide HF4) (by decide) 1 [97] [97, 47, 98] (by decide) (by decide) (by decide))
  rw [aw_ren, ren_err (by rw [aw_ren]; decide)] at HRN
  have HB4 := hide b4
  clear b4 HWK
  go_wp2_with fail
  refine (unhide HRN).mono ?_
  rintro e w5 ⟨rfl, HF5⟩
  have HRM := hide (rmdir_any (unhide HF5) (by decide) 1 [97] (by decide) (by decide))
  rw [aw_rmdir] at HRM
  clear HRN
  go_wp2_with fail
  refine (unhide HRM).mono ?_
  rintro e w6 ⟨rfl, HF6⟩
  go_wp2_with fail
  go_ret
  exact ⟨rfl, (unhide HF6).nd.env.bel⟩

end Go.Proofs.YtdmmjidekpgmgaaGreatDoor

/- Directories (stage 13): a call of the law's: Few, Do. -/
namespace Go.Proofs.YtdmmjidekpgmgaaGreatDoor
open Go.RowKit Go.Maps

/-- A call of the law's. -/
structure Op13 where
  ask : Int
  dir : Int
  path : List UInt8
  tgt : List UInt8
  n : Int
def I64 (x : Int) : Prop := -9223372036854775808 ≤ x ∧ x ≤ 9223372036854775807
def Op13.ok (o : Op13) : Prop := I64 o.ask ∧ I64 o.dir ∧ I64 o.n
def Op13.val (o : Op13) : Value := .agg #[.int .i64 o.ask, .int .i64 o.dir, .string (BA o.path), .string (BA o.tgt), .int .i64 o.n]
def Op13.few (o : Op13) : Bool := decide (o.path.length ≤ 400) && decide (o.tgt.length ≤ 400)
set_option maxRecDepth 20000 in
set_option maxHeartbeats 1000000 in
theorem few_any (o : Op13) (w : World) : Calls Tryz.prog 12 #[.agg #[.int .i64 o.ask, .int .i64 o.dir, .string (BA o.path), .string (BA o.tgt), .int .i64 o.n]] w fun e w' => e = .returned (.bool o.few) ∧ Below w.heap.size w w' := by
  have hb : Below w.heap.size w (w.alloc (.cells #[.int .i64 o.ask, .int .i64 o.dir, .string (BA o.path), .string (BA o.tgt), .int .i64 o.n] 33)) := (Below.refl _ w).alloc (Nat.le_refl _) _
  have HB := hide hb
  obtain ⟨oa, od, op, ot, on⟩ := o
  have HF : Hid ((⟨oa, od, op, ot, on⟩ : Op13).few = (decide (op.length ≤ 400) && decide (ot.length ≤ 400))) := hide rfl
  obtain ⟨g, hg⟩ : ∃ g, g = (⟨oa, od, op, ot, on⟩ : Op13).few := ⟨_, rfl⟩
  rw [← hg] at HF ⊢
  simp only at HB ⊢
  clear hb hg
  by_cases h1 : op.length ≤ 400
  · by_cases h2 : ot.length ≤ 400
    · have hg : g = true := by rw [unhide HF, decide_eq_true h1, decide_eq_true h2]; rfl
      subst hg
      go_enter Tryz.func12, Tryz.ntmps12
      go_wp2_with fail
      go_ret
      exact ⟨ret_bool (decide_eq_true (by omega)), unhide HB⟩
    · have hg : g = false := by rw [unhide HF, decide_eq_true h1, decide_eq_false h2]; rfl
      subst hg
      go_enter Tryz.func12, Tryz.ntmps12
      go_wp2_with fail
      go_ret
      exact ⟨ret_bool (decide_eq_false (by omega)), unhide HB⟩
  · have hg : g = false := by rw [unhide HF, decide_eq_false h1]; rfl
    subst hg
    go_enter Tryz.func12, Tryz.ntmps12
    go_wp2_with fail
    go_ret
    exact ⟨rfl, unhide HB⟩
/-- What a call answers and leaves, as far as the laws ask. -/
structure DoN (s : NS) (nb : Nat) (o : Op13) (N E : Int) (s' : NS) : Prop where
  make : o.ask = 0 → MadeSp s nb o.dir o.path 1 [] N E s'
  mkdir : o.ask = 1 → ∃ N', MadeSp s nb o.dir o.path 2 [] N' E s'
  unlink : o.ask = 4 → E = unlinkE s o.dir o.path ∧ s' = unlinkS s o.dir o.path
  rmdir : o.ask = 5 → E = rmdirE s o.dir o.path ∧ s' = rmdirS s o.dir o.path
/-- What the laws ask of Link. -/
def LkAt (f q : Nat) (Y : Nat → Prop) (nb : Nat) (B : World) : Prop := ∀ (W : World) (s : NS) (n : Nat) (d : Int) (p p2 : List UInt8), FX W f q Y s nb n B → n ≤ 10000 → -9223372036854775808 ≤ d ∧ d ≤ 9223372036854775807 → p.length ≤ 100000 → p2.length ≤ 100000 → Calls Tryz.prog 42 #[.pointer (some ⟨f, 0, none⟩), .int .i64 d, .string (BA p), .string (BA p2)] W fun e w' => ∃ E, e = .returned (.int .i64 E) ∧ Hid (∃ s', FX w' f q Y s' nb (n + 1) B)
theorem DoN.no {s : NS} {nb : Nat} {o : Op13} {N E : Int} {s' : NS} (h0 : o.ask ≠ 0) (h1 : o.ask ≠ 1) (h4 : o.ask ≠ 4) (h5 : o.ask ≠ 5) : DoN s nb o N E s' := ⟨fun h => absurd h h0, fun h => absurd h h1, fun h => absurd h h4, fun h => absurd h h5⟩
set_option maxRecDepth 20000 in
set_option maxHeartbeats 4000000 in
theorem do_any {w : World} {f q nb n : Nat} {B : World} {Y : Nat → Prop} {s : NS} (LK : LkAt f q Y nb B) (H : FX w f q Y s nb n B) (hnn : n ≤ 9000) (o : Op13) (ok : o.ok) (hf : o.few = true) : Calls Tryz.prog 18 #[.pointer (some ⟨f, 0, none⟩), .agg #[.int .i64 o.ask, .int .i64 o.dir, .string (BA o.path), .string (BA o.tgt), .int .i64 o.n]] w fun e w' => ∃ N E, e = .returned (.tuple #[.int .i64 N, .int .i64 E]) ∧ Hid (∃ s', DoN s nb o N E s' ∧ FX w' f q Y s' nb (n + 1) B) := by
  obtain ⟨k0, k1, k2⟩ := ok
  unfold Op13.few at hf
  rw [Bool.and_eq_true, decide_eq_true_eq, decide_eq_true_eq] at hf
  have hb : Below w.heap.size w (w.alloc (.cells #[.int .i64 o.ask, .int .i64 o.dir, .string (BA o.path), .string (BA o.tgt), .int .i64 o.n] 33)) := (Below.refl _ w).alloc (Nat.le_refl _) _
  have hn1 : n ≤ 10000 := by omega
  have hn2 : n ≤ 10000 := by omega
  have HX := hide (H.below hb)
  have hp1 : o.path.length ≤ 100000 := by omega
  have hp2 : o.tgt.length ≤ 100000 := by omega
  have hnew := Blk.new w 33 #[.int .i64 o.ask, .int .i64 o.dir, .string (BA o.path), .string (BA o.tgt), .int .i64 o.n]
  obtain ⟨W, hW⟩ : ∃ W, W = w.alloc (.cells #[.int .i64 o.ask, .int .i64 o.dir, .string (BA o.path), .string (BA o.tgt), .int .i64 o.n] 33) := ⟨_, rfl⟩
  rw [← hW] at HX hnew
  obtain ⟨b, hbb⟩ : ∃ b, b = w.heap.size := ⟨_, rfl⟩
  rw [← hbb] at hnew
  have c0 : W.cell? ⟨b, 0, none⟩ = some (.int .i64 o.ask) := hnew.cell 0 rfl
  have c1 : W.cell? ⟨b, 1, none⟩ = some (.int .i64 o.dir) := hnew.cell 1 rfl
  have c2 : W.cell? ⟨b, 2, none⟩ = some (.string (BA o.path)) := hnew.cell 2 rfl
  have c3 : W.cell? ⟨b, 3, none⟩ = some (.string (BA o.tgt)) := hnew.cell 3 rfl
  have c4 : W.cell? ⟨b, 4, none⟩ = some (.int .i64 o.n) := hnew.cell 4 rfl
  have HW := hide hW
  have HBB := hide hbb
  have HLK := hide LK
  clear H hb hf hnew hW hbb LK
  by_cases h0 : o.ask = 0
  · have HC := hide (make_any (unhide HX) hn1 o.dir o.path k1 hp1)
    have HA := hide h0
    have hq : (o.ask == 0) = true := by simpa using h0
    obtain ⟨oa, od, op, ot, on⟩ := o
    simp only at *
    clear h0
    go_enter Tryz.func18, Tryz.ntmps18
    go_upto_region 1 with fail
    rw [← unhide HW, ← unhide HBB]
    go_wp2_with fail
    refine (unhide HC).mono ?_
    rintro e w1 ⟨N, E, rfl, HM⟩
    go_wp2_with fail
    go_ret2
    obtain ⟨s', m1, m2⟩ := unhide HM
    exact ⟨_, _, rfl, hide ⟨s', ⟨fun _ => m1, fun h => absurd ((unhide HA).symm.trans h) (by decide), fun h => absurd ((unhide HA).symm.trans h) (by decide), fun h => absurd ((unhide HA).symm.trans h) (by decide)⟩, m2⟩⟩
  · skip
    by_cases h1 : o.ask = 1
    · have HC := hide (mkdir_any (unhide HX) hn1 o.dir o.path k1 hp1)
      have HA := hide h1
      have hq : (o.ask == 1) = true := by simpa using h1
      have g0 : (o.ask == 0) = false := by simpa using h0
      clear h0
      obtain ⟨oa, od, op, ot, on⟩ := o
      simp only at *
      clear h1
      go_enter Tryz.func18, Tryz.ntmps18
      go_upto_region 1 with fail
      rw [← unhide HW, ← unhide HBB]
      go_wp2_with fail
      refine (unhide HC).mono ?_
      rintro e w1 ⟨E, rfl, HM⟩
      go_wp2_with fail
      go_ret2
      obtain ⟨N', s', m1, m2⟩ := unhide HM
      exact ⟨_, _, rfl, hide ⟨s', ⟨fun h => absurd ((unhide HA).symm.trans h) (by decide), fun _ => ⟨N', m1⟩, fun h => absurd ((unhide HA).symm.trans h) (by decide), fun h => absurd ((unhide HA).symm.trans h) (by decide)⟩, m2⟩⟩
    · skip
      by_cases h2 : o.ask = 2
      · have HC := hide (symlink_any (unhide HX) hn1 o.dir o.tgt o.path k1 hp1 hp2)
        have HA := hide h2
        have hq : (o.ask == 2) = true := by simpa using h2
        have g0 : (o.ask == 0) = false := by simpa using h0
        have g1 : (o.ask == 1) = false := by simpa using h1
        clear h0 h1
        obtain ⟨oa, od, op, ot, on⟩ := o
        simp only at *
        clear h2
        go_enter Tryz.func18, Tryz.ntmps18
        go_upto_region 1 with fail
        rw [← unhide HW, ← unhide HBB]
        go_wp2_with fail
        refine (unhide HC).mono ?_
        rintro e w1 ⟨E, rfl, HM⟩
        go_wp2_with fail
        go_ret2
        obtain ⟨s', m1, m2⟩ := unhide HM
        exact ⟨_, _, rfl, hide ⟨s', DoN.no (fun h => absurd ((unhide HA).symm.trans h) (by decide)) (fun h => absurd ((unhide HA).symm.trans h) (by decide)) (fun h => absurd ((unhide HA).symm.trans h) (by decide)) (fun h => absurd ((unhide HA).symm.trans h) (by decide)), m2⟩⟩
      · skip
        by_cases h3 : o.ask = 3
        · have HC := hide (unhide HLK W s n o.dir o.path o.tgt (unhide HX) hn2 k1 hp1 hp2)
          have HA := hide h3
          have hq : (o.ask == 3) = true := by simpa using h3
          have g0 : (o.ask == 0) = false := by simpa using h0
          have g1 : (o.ask == 1) = false := by simpa using h1
          have g2 : (o.ask == 2) = false := by simpa using h2
          clear h0 h1 h2
          obtain ⟨oa, od, op, ot, on⟩ := o
          simp only at *
          clear h3
          go_enter Tryz.func18, Tryz.ntmps18
          go_upto_region 1 with fail
          rw [← unhide HW, ← unhide HBB]
          go_wp2_with fail
          refine (unhide HC).mono ?_
          rintro e w1 ⟨E, rfl, HM⟩
          go_wp2_with fail
          go_ret2
          obtain ⟨s', m2⟩ := unhide HM
          exact ⟨_, _, rfl, hide ⟨s', DoN.no (fun h => absurd ((unhide HA).symm.trans h) (by decide)) (fun h => absurd ((unhide HA).symm.trans h) (by decide)) (fun h => absurd ((unhide HA).symm.trans h) (by decide)) (fun h => absurd ((unhide HA).symm.trans h) (by decide)), m2⟩⟩
        · skip
          by_cases h4 : o.ask = 4
          · have HC := hide (unlink_any (unhide HX) hn1 o.dir o.path k1 hp1)
            have HA := hide h4
            have hq : (o.ask == 4) = true := by simpa using h4
            have g0 : (o.ask == 0) = false := by simpa using h0
            have g1 : (o.ask == 1) = false := by simpa using h1
            have g2 : (o.ask == 2) = false := by simpa using h2
            have g3 : (o.ask == 3) = false := by simpa using h3
            clear h0 h1 h2 h3
            obtain ⟨oa, od, op, ot, on⟩ := o
            simp only at *
            clear h4
            go_enter Tryz.func18, Tryz.ntmps18
            go_upto_region 1 with fail
            rw [← unhide HW, ← unhide HBB]
            go_wp2_with fail
            refine (unhide HC).mono ?_
            rintro e w1 ⟨rfl, HM⟩
            go_wp2_with fail
            go_ret2
            exact ⟨_, _, rfl, hide ⟨_, ⟨fun h => absurd ((unhide HA).symm.trans h) (by decide), fun h => absurd ((unhide HA).symm.trans h) (by decide), fun _ => ⟨rfl, rfl⟩, fun h => absurd ((unhide HA).symm.trans h) (by decide)⟩, unhide HM⟩⟩
          · skip
            by_cases h5 : o.ask = 5
            · have HC := hide (rmdir_any (unhide HX) hn1 o.dir o.path k1 hp1)
              have HA := hide h5
              have hq : (o.ask == 5) = true := by simpa using h5
              have g0 : (o.ask == 0) = false := by simpa using h0
              have g1 : (o.ask == 1) = false := by simpa using h1
              have g2 : (o.ask == 2) = false := by simpa using h2
              have g3 : (o.ask == 3) = false := by simpa using h3
              have g4 : (o.ask == 4) = false := by simpa using h4
              clear h0 h1 h2 h3 h4
              obtain ⟨oa, od, op, ot, on⟩ := o
              simp only at *
              clear h5
              go_enter Tryz.func18, Tryz.ntmps18
              go_upto_region 1 with fail
              rw [← unhide HW, ← unhide HBB]
              go_wp2_with fail
              refine (unhide HC).mono ?_
              rintro e w1 ⟨rfl, HM⟩
              go_wp2_with fail
              go_ret2
              exact ⟨_, _, rfl, hide ⟨_, ⟨fun h => absurd ((unhide HA).symm.trans h) (by decide), fun h => absurd ((unhide HA).symm.trans h) (by decide), fun h => absurd ((unhide HA).symm.trans h) (by decide), fun _ => ⟨rfl, rfl⟩⟩, unhide HM⟩⟩
            · skip
              by_cases h6 : o.ask = 6
              · have HC := hide (rename_any (unhide HX) hn1 o.dir o.path o.tgt k1 hp1 hp2)
                have HA := hide h6
                have hq : (o.ask == 6) = true := by simpa using h6
                have g0 : (o.ask == 0) = false := by simpa using h0
                have g1 : (o.ask == 1) = false := by simpa using h1
                have g2 : (o.ask == 2) = false := by simpa using h2
                have g3 : (o.ask == 3) = false := by simpa using h3
                have g4 : (o.ask == 4) = false := by simpa using h4
                have g5 : (o.ask == 5) = false := by simpa using h5
                clear h0 h1 h2 h3 h4 h5
                obtain ⟨oa, od, op, ot, on⟩ := o
                simp only at *
                clear h6
                go_enter Tryz.func18, Tryz.ntmps18
                go_upto_region 1 with fail
                rw [← unhide HW, ← unhide HBB]
                go_wp2_with fail
                refine (unhide HC).mono ?_
                rintro e w1 ⟨rfl, HM⟩
                go_wp2_with fail
                go_ret2
                exact ⟨_, _, rfl, hide ⟨_, DoN.no (fun h => absurd ((unhide HA).symm.trans h) (by decide)) (fun h => absurd ((unhide HA).symm.trans h) (by decide)) (fun h => absurd ((unhide HA).symm.trans h) (by decide)) (fun h => absurd ((unhide HA).symm.trans h) (by decide)), unhide HM⟩⟩
              · skip
                by_cases h7 : o.ask = 7
                · have HC := hide (fwrite_any (unhide HX) o.n 0 o.tgt k2 (by decide) hp2)
                  have HA := hide h7
                  have hq : (o.ask == 7) = true := by simpa using h7
                  have g0 : (o.ask == 0) = false := by simpa using h0
                  have g1 : (o.ask == 1) = false := by simpa using h1
                  have g2 : (o.ask == 2) = false := by simpa using h2
                  have g3 : (o.ask == 3) = false := by simpa using h3
                  have g4 : (o.ask == 4) = false := by simpa using h4
                  have g5 : (o.ask == 5) = false := by simpa using h5
                  have g6 : (o.ask == 6) = false := by simpa using h6
                  clear h0 h1 h2 h3 h4 h5 h6
                  obtain ⟨oa, od, op, ot, on⟩ := o
                  simp only at *
                  clear h7
                  go_enter Tryz.func18, Tryz.ntmps18
                  go_upto_region 1 with fail
                  rw [← unhide HW, ← unhide HBB]
                  go_wp2_with fail
                  refine (unhide HC).mono ?_
                  rintro e w1 ⟨N, E, rfl, HM⟩
                  go_wp2_with fail
                  go_ret2
                  obtain ⟨s', m1, m2⟩ := unhide HM
                  exact ⟨_, _, rfl, hide ⟨s', DoN.no (fun h => absurd ((unhide HA).symm.trans h) (by decide)) (fun h => absurd ((unhide HA).symm.trans h) (by decide)) (fun h => absurd ((unhide HA).symm.trans h) (by decide)) (fun h => absurd ((unhide HA).symm.trans h) (by decide)), m2⟩⟩
                · skip
                  by_cases h8 : o.ask = 8
                  · have HC := hide (nhold_any (unhide HX) hn1 o.n k2)
                    have HA := hide h8
                    have hq : (o.ask == 8) = true := by simpa using h8
                    have g0 : (o.ask == 0) = false := by simpa using h0
                    have g1 : (o.ask == 1) = false := by simpa using h1
                    have g2 : (o.ask == 2) = false := by simpa using h2
                    have g3 : (o.ask == 3) = false := by simpa using h3
                    have g4 : (o.ask == 4) = false := by simpa using h4
                    have g5 : (o.ask == 5) = false := by simpa using h5
                    have g6 : (o.ask == 6) = false := by simpa using h6
                    have g7 : (o.ask == 7) = false := by simpa using h7
                    clear h0 h1 h2 h3 h4 h5 h6 h7
                    obtain ⟨oa, od, op, ot, on⟩ := o
                    simp only at *
                    clear h8
                    go_enter Tryz.func18, Tryz.ntmps18
                    go_upto_region 1 with fail
                    rw [← unhide HW, ← unhide HBB]
                    go_wp2_with fail
                    refine (unhide HC).mono ?_
                    rintro e w1 ⟨rfl, HM⟩
                    go_wp2_with fail
                    go_ret2
                    exact ⟨_, _, rfl, hide ⟨_, DoN.no (fun h => absurd ((unhide HA).symm.trans h) (by decide)) (fun h => absurd ((unhide HA).symm.trans h) (by decide)) (fun h => absurd ((unhide HA).symm.trans h) (by decide)) (fun h => absurd ((unhide HA).symm.trans h) (by decide)), unhide HM⟩⟩
                  · skip
                    have HC := hide (nloose_any (unhide HX) hn1 o.n k2)
                    have g0 : (o.ask == 0) = false := by simpa using h0
                    have g1 : (o.ask == 1) = false := by simpa using h1
                    have g2 : (o.ask == 2) = false := by simpa using h2
                    have g3 : (o.ask == 3) = false := by simpa using h3
                    have g4 : (o.ask == 4) = false := by simpa using h4
                    have g5 : (o.ask == 5) = false := by simpa using h5
                    have g6 : (o.ask == 6) = false := by simpa using h6
                    have g7 : (o.ask == 7) = false := by simpa using h7
                    have g8 : (o.ask == 8) = false := by simpa using h8
                    obtain ⟨HN0, HN1, HN4, HN5⟩ : Hid (o.ask ≠ 0) ∧ Hid (o.ask ≠ 1) ∧ Hid (o.ask ≠ 4) ∧ Hid (o.ask ≠ 5) := ⟨hide h0, hide h1, hide h4, hide h5⟩
                    clear h0 h1 h2 h3 h4 h5 h6 h7 h8
                    obtain ⟨oa, od, op, ot, on⟩ := o
                    simp only at *
                    go_enter Tryz.func18, Tryz.ntmps18
                    go_upto_region 1 with fail
                    rw [← unhide HW, ← unhide HBB]
                    go_wp2_with fail
                    refine (unhide HC).mono ?_
                    rintro e w1 ⟨rfl, HM⟩
                    go_wp2_with fail
                    go_ret2
                    exact ⟨_, _, rfl, hide ⟨_, DoN.no (unhide HN0) (unhide HN1) (unhide HN4) (unhide HN5), unhide HM⟩⟩

end Go.Proofs.YtdmmjidekpgmgaaGreatDoor

/-
  zeros, bytesOf, bytes; Read.
-/
import Derived.Test.YtcfhgjlihifmnaaINew
import Derived.Test.YtcfhgjlihifmnaaIGive
import Derived.Test.YtcfhgjlihifmnaaIBld
namespace Go.Proofs.Ytcfhgjlihifmnaa
open Go.RowKit Go.Maps

def zerosL (n : Nat) : List UInt8 := List.replicate n 0
theorem repeat_zero : ∀ n, Lib.repeatL [0] n = zerosL n
  | 0 => rfl
  | n + 1 => by
    show [0] ++ Lib.repeatL [0] n = List.replicate (n + 1) 0
    rw [repeat_zero n, List.replicate_succ]
    rfl
set_option maxRecDepth 20000 in
theorem zeros_any (n : Nat) (w : World) (hn : n ≤ 100000) : Calls Try.prog 66 #[.int .i64 (n : Int)] w fun e w' => e = .returned (.string (BA (zerosL n))) ∧ Below w.heap.size w w' := by
  have HR := hide (Try.strings_Repeat ⟨#[0]⟩ n w (by omega) (by show 1 * n ≤ _; omega))
  rw [show (⟨#[0]⟩ : ByteArray).data.toList = [0] from rfl, repeat_zero] at HR
  go_enter Try.func66, Try.ntmps66
  go_wp2_with fail
  refine (unhide HR).mono ?_
  rintro e w1 ⟨rfl, h1⟩
  have H1 := hide h1
  clear h1
  go_wp2
  go_ret
  exact ⟨rfl, unhide H1⟩
/-- n bytes of a node from a on. -/
def bytsOf (x : Nd) (a n : Nat) : List UInt8 := (List.range n).map (fun j => x.byt (a + j))
theorem bytsOf_len (x : Nd) (a n : Nat) : (bytsOf x a n).length = n := by simp [bytsOf]
theorem bytsOf_app (x : Nd) (a n m : Nat) : bytsOf x a (n + m) = bytsOf x a n ++ bytsOf x (a + n) m := by
  unfold bytsOf
  rw [List.range_add, List.map_append, List.map_map]
  congr 1
  apply List.map_congr_left
  intro j _
  show x.byt (a + (n + j)) = x.byt (a + n + j)
  rw [Nat.add_assoc]
theorem zeroI (w : World) : (zeroValue 3).run Try.prog w = .ok (.int .i64 0) w := by kernel_rfl
set_option maxRecDepth 20000 in
set_option maxHeartbeats 1000000 in
theorem bytesOf_any {w : World} {p : Nat} {L : Lay} {T : TB} (H : TL w p L T) {i : Nat} {x : Nd} (hi : T[i]? = some (some x)) (part fr n : Nat) (hp : part ≤ 100000) (hf : fr + n ≤ 64) :
    Calls Try.prog 62 #[.pointer (some ⟨p, 0, none⟩), .pointer (some ⟨L.q i, 0, none⟩), .int .i64 (part : Int), .int .i64 (fr : Int), .int .i64 (n : Int)] w fun e w' => e = .returned (.string (BA (bytsOf x (64 * part + fr) n))) ∧ Below w.heap.size w w' := by
  obtain ⟨D, hD, hR⟩ := (H.node i x hi).own
  have cm : w.cell? ⟨L.q i, 4, none⟩ = some (.map (some (L.m i))) := (H.node i x hi).blk.cell 4 rfl
  have cs : w.cell? ⟨p, 1, none⟩ = some (.pointer (some ⟨L.s, 0, none⟩)) := H.tab.cell 1 rfl
  have hbyt := H.byte i x hi
  have hkey := keyI (a := (part : Int)) (by simp [Lit.wf, IntKind.min, IntKind.max, IntKind.signed, IntKind.bits]; omega)
  obtain ⟨m, hm⟩ : ∃ m, m = L.m i := ⟨_, rfl⟩
  obtain ⟨q, hq⟩ : ∃ q, q = L.q i := ⟨_, rfl⟩
  obtain ⟨s, hs⟩ : ∃ s, s = L.s := ⟨_, rfl⟩
  rw [← hm] at hD cm
  rw [← hq] at cm ⊢
  rw [← hs] at cs
  have hh := hR.has (part : Int)
  rw [show ((part : Int)).toNat = part by omega] at hh
  cases hc : L.pf i part with
  | none =>
    have hh2 : Maps.has D (.int .i64 (part : Int)) = false := by rw [hh]; unfold isS; rw [hc]; simp
    have HZ := hide (zeros_any n w (by omega))
    have e : zerosL n = bytsOf x (64 * part + fr) n := by
      unfold zerosL bytsOf
      apply List.ext_getElem
      · simp
      · intro j h1 h2
        simp at h1
        simp
        rw [hbyt]
        unfold byteOf
        rw [show (64 * part + fr + j) / 64 = part by omega, hc]
    rw [e] at HZ
    obtain ⟨hb, hhb⟩ : ∃ hb, hb = Maps.has D (.int .i64 (part : Int)) := ⟨_, rfl⟩
    rw [hh2] at hhb
    have HD := hide hD
    have HK := hide hkey
    have HH := hide hh2
    clear hbyt H hi hR hh hm hq hs hc hD hkey hh2 hhb e
    go_enter Try.func62, Try.ntmps62
    go_wp2_with (first
      | (at_lookup; refine wpList_lookup_own_ok_int _ rfl _ _ 78 rfl 3 3 .i64 lawI Try.underlying78 Try.underlying3 (zeroI _) m _ _ rfl (unhide HD) _ _ rfl (unhide HK) ?_; intro c hat hwc; rw [unhide HH]; have HC := hide hat; clear hat)
      | fail)
    refine (unhide HZ).mono ?_
    rintro e w1 ⟨rfl, h1⟩
    have H1 := hide h1
    clear h1
    go_wp2
    go_ret
    exact ⟨rfl, unhide H1⟩
  | some b =>
    have hh2 : Maps.has D (.int .i64 (part : Int)) = true := by rw [hh]; unfold isS; rw [hc]; simp
    have hat0 := hR.at' part b hc (.lit (.int .i64 0))
    obtain ⟨y, hy, hyn⟩ := H.part i x hi part b hc
    have hyl := H.store.wf.len hy hyn
    have hbl := (List.getElem?_eq_some_iff.1 hy).1
    have hmx := H.store.wf.max
    have HRD := hide (read_any w L.s L.gs L.hs L.l ((b : Int) + 1) (fr : Int) (n : Int) H.store (by omega) (by omega))
    have e : readT L.l ((b : Int) + 1) fr n = bytsOf x (64 * part + fr) n := by
      unfold readT
      rw [tkn_of hy, show (!y.isEmpty) = true by cases y with | nil => exact absurd rfl hyn | cons _ _ => rfl, show inB (fr : Int) (n : Int) = true by simp [inB]; omega, show ((b : Int) + 1 - 1).toNat = b by omega]
      simp only [Bool.and_self, if_true]
      rw [List.getD_eq_getElem?_getD, hy]
      show ((y.drop fr).take n) = _
      unfold bytsOf
      apply List.ext_getElem
      · simp; omega
      · intro j h1 h2
        simp at h1 h2 ⊢
        rw [hbyt]
        unfold byteOf
        rw [show (64 * part + fr + j) / 64 = part by omega, hc, show (64 * part + fr + j) % 64 = fr + j by omega]
        show _ = bAt L.l b (fr + j)
        rw [bAt_of hy, List.getD_eq_getElem?_getD, List.getElem?_eq_getElem (by omega)]
        rfl
    rw [show ((fr : Int)) = ((fr : Nat) : Int) from rfl] at HRD
    rw [e] at HRD
    rw [← hs] at HRD
    obtain ⟨E, hE⟩ : ∃ E, E = readE L.l ((b : Int) + 1) fr n := ⟨_, rfl⟩
    rw [← hE] at HRD
    have HD := hide hD
    have HK := hide hkey
    have HH := hide hh2
    have HA := hide hat0
    clear hbyt H hi hR hh hm hq hs hc hD hkey hh2 hat0 e hy hyn hyl hE
    go_enter Try.func62, Try.ntmps62
    go_wp2_with (first
      | (at_lookup; refine wpList_lookup_own_ok_int _ rfl _ _ 78 rfl 3 3 .i64 lawI Try.underlying78 Try.underlying3 (zeroI _) m _ _ rfl (unhide HD) _ _ rfl (unhide HK) ?_; intro c hat hwc; rw [unhide HH]; obtain rfl : c = (b : Int) + 1 := (by rw [unhide HA] at hat; injection hat with hat; injection hat with _ hat; exact hat.symm); clear hat hwc)
      | fail)
    refine (unhide HRD).mono ?_
    rintro e w1 ⟨rfl, hw1⟩
    rw [show w1 = w from hw1]
    clear hw1
    go_wp2
    go_ret
    exact ⟨rfl, Below.refl _ _⟩

end Go.Proofs.Ytcfhgjlihifmnaa

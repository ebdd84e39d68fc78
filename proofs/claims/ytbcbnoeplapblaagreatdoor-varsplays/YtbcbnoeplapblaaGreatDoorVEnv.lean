/-
  Package vars: Env.
-/
import Derived.Test.YtbcbnoeplapblaaGreatDoorVAll
import Derived.Laws.AppendOwnNone
namespace Go.Proofs.YtbcbnoeplapblaaGreatDoor
open Go.RowKit Go.Maps

theorem info_text : (Tryz.prog.info? 9).map (fun i => (i.zero, i.size, i.bytes)) = some (some (.string ⟨#[]⟩), 1, 16) := by kernel_rfl
/-- What is handed on of variables. -/
def envL (L : List Vr) : List (List UInt8) := (L.filter fun x => x.set && x.ex).map fun x => x.name ++ [61] ++ x.value
theorem BA_app (a b : List UInt8) : BA a ++ BA b = BA (a ++ b) := by
  apply ByteArray.ext
  simp [BA]
theorem env_text (a c : List UInt8) : BA a ++ ⟨#[61]⟩ ++ BA c = BA (a ++ [61] ++ c) := by
  rw [show (⟨#[61]⟩ : ByteArray) = BA [61] from rfl, BA_app, BA_app]
theorem envL_take {L : List Vr} {k : Nat} {x : Vr} (h : L[k]? = some x) : envL (L.take (k + 1)) = envL (L.take k) ++ (if (x.set && x.ex) = true then [x.name ++ [61] ++ x.value] else []) := by
  rw [List.take_add_one, h]
  unfold envL
  rw [List.filter_append, List.map_append]
  congr 1
  cases hc : x.set && x.ex <;> simp [hc]
theorem envL_len (L : List Vr) : (envL L).length ≤ L.length := by
  unfold envL
  rw [List.length_map]
  exact List.length_filter_le _ L
theorem txt_cell {w : World} {x : Value} {n : Nat} (hn : w.heap.size = n) : ∀ j u, [x][j]? = some u → (w.alloc (.cells #[x] 9)).cell? ((⟨n, 0, none⟩ : Addr).add j) = some u := by
  intro j u hu
  subst hn
  match j, hu with
  | 0, hu =>
    simp at hu
    subst hu
    rw [add_at]
    exact (Blk.new w 9 #[x]).cell 0 rfl
theorem txt_val {t : ByteArray} : ∀ u ∈ [Value.string t], u.oneCell' = true := by
  intro u hu
  simp at hu
  subst hu
  rfl
/-- How far a list of texts is. -/
structure EIn (w wr : World) (ov : Value) (l : List (List UInt8)) : Prop where
  row : wr.ownsRow w.heap.size 9 1 ov l.length (l.map fun x => .string (BA x))
  below : Below w.heap.size w wr
theorem EIn.alloc {w wr : World} {ov : Value} {l : List (List UInt8)} (h : EIn w wr ov l) (B : Obj) : EIn w (wr.alloc B) ov l := ⟨World.ownsRow.alloc h.row B, h.below.alloc h.below.size B⟩
theorem EIn.drew {w wr : World} {ov : Value} {l : List (List UInt8)} (h : EIn w wr ov l) (n : Nat) : EIn w (wr.drewN n) ov l :=
  ⟨own_grownS h.row (grownS_of_below (S := fun _ => False) (below_drew wr n)) (fun _ _ e => e), h.below.trans ((below_drew wr n).mono h.below.size)⟩
theorem EIn.push {w wr w4 : World} {B : Obj} {ov v' : Value} {l : List (List UInt8)} {t : List UInt8} (h : EIn w wr ov l) (ho : w4.ownsRow w.heap.size 9 1 v' (l.length + 1) ((l.map fun x => .string (BA x)) ++ [.string (BA t)])) (hg : (wr.alloc B).grownBy w4 ov.ownBlock) : EIn w w4 v' (l ++ [t]) := by
  refine ⟨?_, ?_⟩
  · rw [List.map_append, List.length_append]
    exact ho
  · exact (h.below.alloc h.below.size B).grown hg (by have := h.below.size; simp; omega) (fun j hj => (World.ownsRow.lt h.row j hj).1)
set_option maxRecDepth 20000 in
set_option maxHeartbeats 8000000 in
theorem env_any (b : Nat) (X : Nat → Prop) (s : VSt) (w : World) (h : VAt w b X s) (hL : s.L.length ≤ 1000) (hz : ∀ x ∈ s.L, x.name.length ≤ 200 ∧ x.value.length ≤ 200) :
    Calls Tryz.prog 17 #[.pointer (some ⟨b, 0, none⟩)] w fun e w' => ∃ v', e = .returned v' ∧ AOwn w' v' (envL s.L) ∧ (∀ k, v'.ownBlock = some k → w.heap.size ≤ k) ∧ Below w.heap.size w w' := by
  obtain ⟨i0, hi, hz0, hz1, hz2⟩ := info_of info_text
  have HAL := hide (all_any b X s w h hL)
  obtain ⟨L, hLd⟩ : ∃ L, L = s.L := ⟨_, rfl⟩
  rw [← hLd] at HAL hL hz ⊢
  obtain ⟨N, hN⟩ : ∃ N, N = L.length := ⟨_, rfl⟩
  have HN := hide hN
  have HZ := hide hz
  rw [← hN] at hL
  clear h hLd hN hz
  go_enter Tryz.func17, Tryz.ntmps17
  go_wp2_with fail
  refine (unhide HAL).mono ?_
  rintro e w1 ⟨va, rfl, ho1, hb1⟩
  have HR1 := hide (VRow.of ho1 rfl)
  have HB1 := hide hb1
  obtain ⟨ad, cap, hva, _⟩ := unhide HR1
  rw [← unhide HN] at hva
  subst hva
  clear ho1 hb1 HAL
  go_wp2_with fail
  go_loopw [3, 5, 9] (fun ov _ iv wr => ∃ (k : Nat), iv = .int .i64 k ∧ k ≤ N ∧ Hid (EIn w1 wr ov (envL (L.take k)))) (fun _ _ iv _ => N - (intOf iv).toNat)
  case atStart => exact ⟨0, rfl, Nat.zero_le _, hide ⟨World.ownsRow_nil _ _ _ _, Below.refl _ _⟩⟩
  case round =>
    obtain ⟨k, rfl, hk, HE⟩ := hrel
    by_cases hlt : k < N
    · obtain ⟨⟨nm, vl, st, ex, ro⟩, hx⟩ : ∃ x, L[k]? = some x := ⟨_, List.getElem?_eq_getElem (by have := unhide HN; omega)⟩
      obtain ⟨ad', cap', hva, hc⟩ := (unhide HR1).below (unhide HE).below
      have hva1 : ad = ad' := by injection hva
      clear hva
      subst hva1
      obtain ⟨g, rfl, hg, d0, d1, d2, d3, d4⟩ := hc k _ hx
      have hzz := unhide HZ _ (List.mem_of_getElem? hx)
      have HT := hide (envL_take hx)
      have HEN := hide (envL_len (L.take k))
      have hlt1 : (k : Int) < (N : Int) := by omega
      have hk0 : (0 : Int) ≤ (k : Int) := by omega
      have hel : (envL (L.take k)).length ≤ 1000 := by have := unhide HEN; rw [List.length_take] at this; omega
      obtain ⟨l, hl⟩ : ∃ l, l = envL (L.take k) := ⟨_, rfl⟩
      rw [← hl] at HE hel HT
      simp only at d0 d1 d2 d3 d4 hzz HT
      obtain ⟨hz3, hz4⟩ := hzz
      clear hc hx hl HEN
      cases st with
      | false =>
        go_wp2
        go_roundw
        case rel => exact ⟨k + 1, by go_num, by omega, hide (by rw [unhide HT]; simpa using (unhide HE).alloc _)⟩
        case measure => simp [intOf]; omega
      | true =>
        cases ex with
        | false =>
          go_wp2
          go_roundw
          case rel => exact ⟨k + 1, by go_num, by omega, hide (by rw [unhide HT]; simpa using (unhide HE).alloc _)⟩
          case measure => simp [intOf]; omega
        | true =>
          have HE2 := hide ((unhide HE).alloc (.cells #[.string (BA nm), .string (BA vl), .bool true, .bool true, .bool ro] 61))
          go_wp2_with (first
            | (at_builtin; refine wpList_append_own _ rfl (.tmp 19) (.tmp 26) 22 rfl w1.heap.size 9 i0 _ 1 16 und_texts hi hz0 hz1 hz2 rfl (by decide) _ _ _ rfl (World.ownsRow.alloc (unhide HE2).row _) ⟨wr.heap.size + 1, 0, none⟩ 1 1 [.string (BA nm ++ ⟨#[61]⟩ ++ BA vl)] rfl rfl (txt_cell (by simp)) txt_val ?c3 ?c4 ?c5 ?_)
            | go_in)
          case c3 => unfold maxLen; omega
          case c4 => omega
          case c5 => have := (unhide HE2).below.size; simp at this ⊢; omega
          intro v' w4 hown' hgrow _
          rw [env_text] at hown'
          have HE3 := hide ((unhide HE2).push (t := nm ++ [61] ++ vl) hown' hgrow)
          clear hown' hgrow HE HE2
          go_wp2
          go_roundw
          case rel => exact ⟨k + 1, by go_num, by omega, hide (by rw [unhide HT]; simpa using unhide HE3)⟩
          case measure => simp [intOf]; omega
    · have hlt1 : ¬ (k : Int) < (N : Int) := by omega
      have hkn : L.take k = L := List.take_of_length_le (by have := unhide HN; omega)
      rw [hkn] at HE
      clear hkn
      go_wp2
      go_ret
      have hor := AOwn.of_row (unhide HE).row rfl
      exact ⟨_, rfl, hor.1, fun j hj => Nat.le_trans (unhide HB1).size (hor.2 j hj), (unhide HB1).trans ((unhide HE).below.mono (unhide HB1).size)⟩

end Go.Proofs.YtbcbnoeplapblaaGreatDoor

/-
  The contract of 'Back', whole.
-/
import Derived.Test.YtegaonlpbcpobaaBack
import Derived.Test.YtegaonlpbcpobaaPat
namespace Go.Proofs.Ytegaonlpbcpobaa
open Go.RowKit

theorem turns_ahead {g m : Nat} {w : World} (n : Nat) : Turns g m w (Sort.ahead w n) := ⟨rfl, rfl, rfl, Nat.le_refl _, fun _ _ _ => rfl⟩
theorem turns_putRow {α : Type} [Inhabited α] {w : World} (enc : α → Value) (n g off : Nat) (d : Array α) : Turns g 1 w (Sort.putRow enc (Sort.ahead w n) g off d) := by
  refine ⟨rfl, rfl, rfl, by simp [Sort.putRow, Sort.mapBlock, Sort.ahead], fun k _ hk => ?_⟩
  unfold Sort.putRow Sort.mapBlock
  simp only [Array.getElem?_modify]
  rw [if_neg (by omega)]
  rfl
theorem turns_putRowK {w : World} (n g off : Nat) (X : Array TV) : Turns g 1 w (Sort.putRowK encT 4 (Sort.ahead w n) g off X) := turns_putRow id n g off _
theorem size_putRow {α : Type} [Inhabited α] {w : World} (enc : α → Value) (n g off : Nat) (d : Array α) : (Sort.putRow enc (Sort.ahead w n) g off d).heap.size = w.heap.size := by simp [Sort.putRow, Sort.mapBlock, Sort.ahead]

/-- The flat row of the shelf is the flat list of here. -/
theorem flatK_get (X : List TV) (t : Nat) (h : t < X.length * 4) : (flatV X)[t]? = some ((Sort.flatK encT 4 X.toArray)[t]!) := by
  rw [Sort.get_flatK encT 4 X.toArray t (by simpa using h)]
  have hj : t / 4 < X.length := by omega
  have := flatV_get X (t / 4) (t % 4) hj (by omega)
  rw [show t / 4 * 4 + t % 4 = t by omega] at this
  rw [this]
  have e : X.toArray[t / 4]! = X[t / 4] := by
    rw [getElem!_pos X.toArray (t / 4) (by simpa using hj)]; simp
  rw [e]
  have h4 : t % 4 < (encT X[t / 4]).length := by rw [encT_len]; omega
  rw [List.getElem?_eq_getElem h4, getElem!_pos (encT X[t / 4]) (t % 4) h4]

/-- slices.Reverse of a row of tokens of the call's own. -/
theorem revTok_any (n₀ base m : Nat) (v : Value) (R : Nat → Option Addr × Nat × Nat) (ts : List Tok) (w : World) (h : OwnT n₀ w base v R ts) (hb : n₀ ≤ base) (hbw : base ≤ w.heap.size) (hlen : ts.length ≤ 1000) (hm : n₀ ≤ m) (hvm : ∀ k, v.ownBlock = some k → k < m) :
    Calls Try.prog 30 #[v] w fun e w' => (∃ u, e = .returned u) ∧ TokRow m w' v ts.reverse ∧ Below base w w' ∧ w.heap.size = w'.heap.size ∧ (∀ k, k < w.heap.size → v.ownBlock ≠ some k → w'.heap[k]? = w.heap[k]?) := by
  by_cases hl : ts = []
  · subst hl
    have hsh : ∃ a cap, v = .slice a 0 cap := by
      obtain ⟨_, ⟨rfl, _⟩ | ⟨g, cap, cur, rfl, _⟩⟩ := h.own
      · exact ⟨_, _, rfl⟩
      · exact ⟨_, _, rfl⟩
    obtain ⟨a, cap, rfl⟩ := hsh
    have := AnyQ.slices_Reverse_empty Try.revTok a cap w
    change Calls Try.prog 30 _ _ _ at this
    refine this.mono ?_
    rintro e w' ⟨rfl, rfl⟩
    exact ⟨⟨_, rfl⟩, ⟨_, _, rfl, by simp, by simp, .inl rfl⟩, Below.refl _ _, rfl, fun _ _ _ => rfl⟩
  · obtain ⟨g, cap, rfl, hg0, hg, hcap, hfr, hc⟩ := h.cell hl
    have hX : (valsOf R ts).toArray.size = ts.length := by simp [valsOf_len]
    have hH : Sort.HoldsK encT 4 w g 0 (valsOf R ts).toArray := by
      intro j hj
      have hj' : j < (valsOf R ts).length * 4 := by simpa using hj
      refine ⟨?_, hfr _⟩
      rw [Nat.zero_add]
      exact hc j _ (flatK_get _ j hj')
    have := AnyQ.slices_Reverse Try.revTok 4 Try.isAgg47 Try.sizeOf47 encT encT_len encT_one g 0 cap (valsOf R ts).toArray w hH (by rw [hX]; omega)
    rw [hX] at this
    change Calls Try.prog 30 _ _ _ at this
    refine this.mono ?_
    rintro e w' ⟨rfl, n, rfl⟩
    have hT := turns_putRowK (w := w) n g 0 (valsOf R ts).toArray.reverse
    have hB : Below base w (Sort.putRowK encT 4 (Sort.ahead w n) g 0 (valsOf R ts).toArray.reverse) := hT.below hg0 hbw
    have hsz : (Sort.putRowK encT 4 (Sort.ahead w n) g 0 (valsOf R ts).toArray.reverse).heap.size = w.heap.size := size_putRow id n g 0 _
    refine ⟨⟨_, rfl⟩, ?_, hB, hsz.symm, fun k hk hne => hT.block k hk (fun hc => hne (by simp [Value.ownBlock]; omega))⟩
    refine ⟨_, _, by rw [List.length_reverse], by simpa using hcap, by simp; omega, .inr ⟨g, 0, rfl, hvm g rfl, fun j hj => ?_⟩⟩
    have hj0 : j < ts.length := by simpa using hj
    have hi0 : ts.length - 1 - j < ts.length := by omega
    have hrev : ts.reverse[j] = ts[ts.length - 1 - j] := by simp
    refine ⟨.slice (R (ts.length - 1 - j)).1 (R (ts.length - 1 - j)).2.1 (R (ts.length - 1 - j)).2.2, ?_, ?_⟩
    · rw [hrev]
      refine TokCells.of_at (fun c u hu => ?_)
      have hc4 : c < 4 := by
        have := (List.getElem?_eq_some_iff.1 hu).1
        rwa [encT_len] at this
      have hlt : j * 4 + c < (Sort.flatK encT 4 (valsOf R ts).toArray.reverse).size := by simp [valsOf_len]; omega
      have hcell := Sort.cell?_putRow id (Sort.ahead w n) g 0 (Sort.flatK encT 4 (valsOf R ts).toArray) (Sort.flatK encT 4 (valsOf R ts).toArray.reverse) (fun i hi => hH i hi) (by simp) (j * 4 + c) hlt
      rw [show 0 + j * 4 + c = 0 + (j * 4 + c) by omega]
      refine hcell.trans ?_
      rw [Sort.get_flatK encT 4 _ _ (by simpa using hlt)]
      have e1 : (j * 4 + c) / 4 = j := by omega
      have e2 : (j * 4 + c) % 4 = c := by omega
      rw [e1, e2]
      have e3 : (valsOf R ts).toArray.reverse[j]! = valT (R (ts.length - 1 - j)) ts[ts.length - 1 - j] := by
        rw [getElem!_pos _ j (by simp [valsOf_len]; omega)]
        simp only [Array.getElem_reverse]
        have := valsOf_get R ts (ts.length - 1 - j) hi0
        simpa [valsOf_len] using this
      rw [e3]
      have h4 : c < (encT (valT (R (ts.length - 1 - j)) ts[ts.length - 1 - j])).length := by rw [encT_len]; exact hc4
      rw [List.getElem?_eq_getElem h4] at hu
      rw [getElem!_pos _ c h4]
      simpa using hu
    · rw [hrev]
      exact ((h.rows _ hi0).below (hB.mono hb)).mono hm


def encB (b : UInt8) : Value := .int .u8 (b.toNat : Int)
/-- The text read from behind. -/
def revS (s : ByteArray) : ByteArray := ⟨s.data.toList.reverse.toArray⟩
theorem revS_size (s : ByteArray) : (revS s).size = s.size := by
  show (s.data.toList.reverse.toArray).size = s.data.size
  simp

theorem conv_any (s : ByteArray) (w : World) : ∃ cap w', (convert 9 60 (.string s)).run Try.prog w = .ok (.slice (some ⟨w.heap.size, 0, none⟩) s.size cap) w' ∧
    Below w.heap.size w w' ∧ w'.heap.size = w.heap.size + 1 ∧ Sort.Holds encB w' w.heap.size 0 s.data.toList.toArray := by
  refine ⟨_, _, run_bytes_of_string (P := Try.prog) w 9 60 5 s Try.underlying9 Try.underlying60 Try.underlying5, ?_, by rw [World.size_alloc]; rfl, ?_⟩
  · exact ((Below.refl _ w).drew.alloc (Nat.le_refl _) _)
  · intro j hj
    have hj' : j < s.data.size := by simpa using hj
    have hh := World.alloc_heap_new w.drew (.cells (bytesRow s (grownCap w s.size 0 5)) 5 ((bytesRow s (grownCap w s.size 0 5)).size, (bytesRow s (grownCap w s.size 0 5)).size + 1))
    have hh2 : (w.drew.alloc (.cells (bytesRow s (grownCap w s.size 0 5)) 5 ((bytesRow s (grownCap w s.size 0 5)).size, (bytesRow s (grownCap w s.size 0 5)).size + 1))).heap[w.heap.size]? = _ := hh
    constructor
    · unfold World.cell?
      simp only [hh2]
      rw [Nat.zero_add]
      have e : s.data.toList.toArray[j]! = s.data[j] := by
        rw [getElem!_pos _ j hj]
      rw [e]
      exact bytesRow_at s _ j hj'
    · unfold World.frozen?
      simp only [hh2]
      have : j < (bytesRow s (grownCap w s.size 0 5)).size := by unfold bytesRow; rw [Array.size_append, Array.size_map]; omega
      simp; omega

theorem revByte_any (g cap : Nat) (s : ByteArray) (w : World) (hH : Sort.Holds encB w g 0 s.data.toList.toArray) (hs : s.size ≤ 100000) :
    Calls Try.prog 31 #[.slice (some ⟨g, 0, none⟩) s.size cap] w fun e w' => (∃ u, e = .returned u) ∧ Turns g 1 w w' ∧ w'.heap.size = w.heap.size ∧ (convert 60 9 (.slice (some ⟨g, 0, none⟩) s.size cap)).run Try.prog w' = .ok (.string (revS s)) w' := by
  have hl : s.data.toList.length = s.size := by simp
  have := AnyE.slices_Reverse Try.revByte encB (fun _ => rfl) g 0 cap s.data.toList w hH (by omega)
  rw [hl] at this
  change Calls Try.prog 31 _ _ _ at this
  refine this.mono ?_
  rintro e w' ⟨rfl, n, rfl⟩
  refine ⟨⟨_, rfl⟩, turns_putRow encB n g 0 _, size_putRow encB n g 0 _, ?_⟩
  have hr : s.data.toList.reverse.length = s.size := by rw [List.length_reverse, hl]
  have := run_convert_bytes_back (P := Try.prog) (Sort.putRow encB (Sort.ahead w n) g 0 s.data.toList.reverse.toArray) 60 9 5 ⟨g, 0, none⟩ cap s.data.toList.reverse Try.underlying60 Try.underlying5 Try.underlying9 (fun j hj => by
    rw [add_at2]
    have := Sort.cell?_putRow encB (Sort.ahead w n) g 0 s.data.toList.toArray s.data.toList.reverse.toArray (fun i hi => hH i hi) (by simp) j (by simpa using hj)
    rw [this, getElem!_pos _ j (by simpa using hj)]
    simp [encB])
  rw [hr] at this
  exact this

def backI (s : ByteArray) (ts : List Tok) (longest : Bool) : Int := frontI (revS s) ts.reverse longest

set_option maxHeartbeats 1000000 in
theorem back_any (n₀ : Nat) (v : Value) (s : ByteArray) (ts : List Tok) (longest : Bool) (w : World) (hs9 : s.size ≤ 100000) (hlen : ts.length ≤ 1000) (hrow : TokRow n₀ w v ts) (hn₀ : n₀ ≤ w.heap.size) :
    Calls Try.prog 21 #[v, .string s, .bool longest] w fun e w' => e = .returned (.int .i64 (backI s ts longest)) ∧ Below w.heap.size w w' := by
  have HROW := hide hrow
  obtain ⟨a, cap, rfl, _⟩ := hrow.shape
  clear hrow
  go_enter Try.func21, Try.ntmps21
  go_wp2_with fail
  refine (clone_any n₀ _ ts w (unhide HROW) hn₀ hlen).mono ?_
  rintro e w1 ⟨v1, R, rfl, ho, b1⟩
  obtain ⟨cap2, w2, hcv, b2, hsz2, hH⟩ := conv_any s w1
  have hv1 : ∃ a1 c1, v1 = .slice a1 ts.length c1 := by
    obtain ⟨_, ⟨rfl, h0⟩ | ⟨g, cap, cur, rfl, _⟩⟩ := ho.own
    · exact ⟨none, 0, by rw [h0]⟩
    · exact ⟨_, _, rfl⟩
  obtain ⟨a1, c1, rfl⟩ := hv1
  have hs1 := b1.size
  have hO2 : Hid (OwnT n₀ w2 w.heap.size (.slice a1 ts.length c1) R ts) := hide ⟨ownsRow_below ho.own b2, fun j hj => (ho.rows j hj).below (b2.mono (by omega))⟩
  have HB2 : Hid (Below w.heap.size w w2) := hide (b1.trans (b2.mono hs1))
  have HH := hide hH
  have hb2s := b2.size
  obtain ⟨g, hg⟩ : ∃ x, x = w1.heap.size := ⟨_, rfl⟩
  rw [← hg] at hcv
  have HHg : Hid (Sort.Holds encB w2 g 0 s.data.toList.toArray) := hide (by rw [hg]; exact hH)
  have hg1 : w.heap.size ≤ g := by omega
  have hg2 : g < w2.heap.size := by omega
  have hne : Value.ownBlock (.slice a1 ts.length c1) ≠ some g := fun e => by have := (ownsRow_lt ho.own e).2; omega
  have HVM : Hid (∀ k, Value.ownBlock (.slice a1 ts.length c1) = some k → k < g) := hide (fun k e => by have := (ownsRow_lt ho.own e).2; omega)
  clear ho b1 b2 hH HH hg hsz2 hb2s
  go_wp2_with fail
  refine (revTok_any n₀ w.heap.size g _ R ts w2 (unhide hO2) hn₀ (by omega) hlen (by omega) (unhide HVM)).mono ?_
  rintro e w3 ⟨⟨u, rfl⟩, t3, b3, hsz3, hbl3⟩
  have HH3 : Hid (Sort.Holds encB w3 g 0 s.data.toList.toArray) := hide (fun j hj => ⟨(World.cell?_of_block (w := w2) (a := ⟨g, 0 + j, none⟩) (hbl3 g hg2 hne)).trans ((unhide HHg) j hj).1, (World.frozen?_of_block (w := w2) (a := ⟨g, 0 + j, none⟩) (hbl3 g hg2 hne)).trans ((unhide HHg) j hj).2⟩)
  have HT3 := hide t3
  have HB3 : Hid (Below w.heap.size w w3) := hide ((unhide HB2).trans b3)
  clear t3 b3 hbl3 HHg hO2 HB2 hcv
  go_wp2_with fail
  refine (revByte_any g cap2 s w3 (unhide HH3) hs9).mono ?_
  rintro e w4 ⟨⟨u, rfl⟩, t4, hsz4, hcv4⟩
  have HT4 : Hid (TokRow g w4 (.slice a1 ts.length c1) ts.reverse) := hide ((unhide HT3).below (t4.below (Nat.le_refl _) (by omega)))
  have HB4 : Hid (Below w.heap.size w w4) := hide ((unhide HB3).trans (t4.below hg1 (by omega)))
  have hgt : g ≤ w4.heap.size := by omega
  clear t4 HT3 HB3 HH3
  go_wp2_with fail
  refine (front_any g _ (revS s) ts.reverse longest w4 (by rw [revS_size]; exact hs9) (unhide HT4) hgt).mono ?_
  rintro e w5 ⟨rfl, b5⟩
  go_wp2_with fail
  go_ret
  exact ⟨rfl, (unhide HB4).trans (b5.mono (unhide HB4).size)⟩

end Go.Proofs.Ytegaonlpbcpobaa

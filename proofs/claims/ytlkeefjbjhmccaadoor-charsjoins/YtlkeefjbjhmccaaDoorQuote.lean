/-
  The contracts of 'Text', 'Quote' and 'Unquote': what the library's calls in them ask of the world is 'Env'.
-/
import Derived.Test.YtlkeefjbjhmccaaDoorNum
import Derived.Test.YtlkeefjbjhmccaaDoorBlank
import Derived.Test.YtlkeefjbjhmccaaDoorQuotePlain
import Derived.Lib.SmallJoins
import Derived.Lib.ReplaceLaws
namespace Go.Proofs.YtlkeefjbjhmccaaDoor
open Go.RowKit

/-- What the library's variables hold: 'MaxLen' some number, the powers of ten. -/
structure Env (w : World) : Prop where
  hm : ∃ m, w.cell? ⟨0, 0, none⟩ = some (.int .i64 m)
  tab : Lib.TabIs Tryd.prog w "internal/strconv.uint64pow10" .u64 Lib.pow10Tab

theorem gPow : Tryd.prog.globalNamed "internal/strconv.uint64pow10" = some 1 := by kernel_rfl

theorem Env.below {w w' : World} (h : Env w) (hb : Below w.heap.size w w') : Env w' := by
  obtain ⟨⟨m, hm⟩, ht⟩ := h
  have h0 : (⟨0, 0, none⟩ : Addr).block < w.heap.size := World.block_lt_of_cell? _ _ hm
  exact ⟨⟨m, by rw [hb.cell h0]; exact hm⟩, Joins.tab_stays gPow ht hb (Nat.le_refl _)⟩

theorem below_grow (w : World) (n : Nat) (os : Array Obj) : Below w.heap.size w (Sort.grow (w.drewN n) os) :=
  ⟨rfl, rfl, rfl, by simp [Sort.grow], fun i hi => by
    show ((w.drewN n).heap ++ os)[i]? = _
    rw [Array.getElem?_append_left (by show i < w.heap.size; omega)]
    rfl⟩

theorem ret_str {a b : ByteArray} (h : a = b) : Ending.returned (.string a) = .returned (.string b) := by rw [h]

set_option maxHeartbeats 400000 in
theorem text_any (n : Int) (w : World) (he : Env w) (h0 : -9223372036854775808 ≤ n) (h1 : n ≤ 9223372036854775807) :
    Calls Tryd.prog 24 #[.int .i64 n] w fun e w' => e = .returned (.string ⟨(Lib.itoa n).toArray⟩) ∧ Below w.heap.size w w' := by
  go_enter Tryd.func24, Tryd.ntmps24
  go_wp2_with fail
  refine (Tryd.strconv_Itoa _ h0 h1 _ he.tab).mono ?_
  rintro e w1 ⟨rfl, k, os, rfl⟩
  go_wp2_with fail
  go_ret
  exact ⟨rfl, below_grow _ _ _⟩

set_option maxHeartbeats 400000 in
theorem quote_any (s : ByteArray) (w : World) (he : Env w) (hs : s.size ≤ 10000) :
    Calls Tryd.prog 28 #[.string s] w fun e w' => e = .returned (.string ⟨(quoteL s.data.toList).toArray⟩) ∧ Below w.heap.size w w' := by
  obtain ⟨m, hm⟩ := he.hm
  have hc := Lib.countB_mul_le ⟨#[39]⟩ (by decide) s.size s (Nat.le_refl _)
  have hc' : Lib.countB s ⟨#[39]⟩ ≤ 10000 := by
    have : (⟨#[39]⟩ : ByteArray).size = 1 := rfl
    rw [this] at hc; omega
  have hlen : s.size + Lib.countB s ⟨#[39]⟩ * (⟨#[39, 92, 39, 39]⟩ : ByteArray).size ≤ 140737488355328 := by
    have : (⟨#[39, 92, 39, 39]⟩ : ByteArray).size = 4 := rfl
    rw [this]; omega
  have HL := hide hlen
  clear hlen hc hc'
  go_enter Tryd.func28, Tryd.ntmps28
  go_wp2_with fail
  refine (Tryd.strings_ReplaceAll s ⟨#[39]⟩ ⟨#[39, 92, 39, 39]⟩ m w (by omega) hm (by decide) (unhide HL)).mono ?_
  rintro e w1 ⟨rfl, b1⟩
  have er : Lib.replaceAll s.data.toList (⟨#[39]⟩ : ByteArray).data.toList (⟨#[39, 92, 39, 39]⟩ : ByteArray).data.toList = qBody s.data.toList := replace_quote _
  rw [er]
  have hq := qBody_len s.data.toList
  have hql : (qBody s.data.toList).length ≤ 40000 := by
    have : s.data.toList.length = s.size := by simp
    omega
  clear er hq
  go_wp2_with fail
  go_ret
  exact ⟨ret_str rfl, b1⟩

theorem body_len (q : List UInt8) : (bodyL q).length ≤ q.length := by
  unfold bodyL Lib.trimSuffix Lib.trimPrefix
  split <;> split <;> simp <;> omega

theorem repAll_len : ∀ (f : Nat) (l : List UInt8), (repAll [39, 92, 39, 39] [39] f l).length ≤ l.length
  | 0, _ => Nat.le_refl _
  | f + 1, [] => Nat.le_refl _
  | f + 1, c :: l => by
    rw [repAll]
    split
    · rename_i hp
      have h4 : 4 ≤ (c :: l).length := by
        have := (List.isPrefixOf_iff_prefix.1 hp).length_le
        simpa using this
      have := repAll_len f ((c :: l).drop [39, 92, 39, 39].length)
      simp at this h4 ⊢
      omega
    · have := repAll_len f l
      simp; omega

theorem back_len (q : List UInt8) : (backL q).length ≤ q.length := by
  unfold backL
  rw [replaceAll_eq (by simp) (by decide)]
  exact Nat.le_trans (repAll_len _ _) (body_len q)

/-- What 'Unquote' answers. -/
def unqV (q : List UInt8) : List UInt8 := if quoteL (backL q) = q then backL q else []
def unqE (q : List UInt8) : Int := if quoteL (backL q) = q then 0 else 11

theorem ret_se {a b : ByteArray} {c d : Int} (h : a = b) (g : c = d) : Ending.returned (.tuple #[.string a, .int .i64 c]) = .returned (.tuple #[.string b, .int .i64 d]) := by rw [h, g]

set_option maxHeartbeats 1000000 in
theorem unquote_any (q : ByteArray) (w : World) (he : Env w) (hs : q.size ≤ 9000) :
    Calls Tryd.prog 26 #[.string q] w fun e w' => e = .returned (.tuple #[.string ⟨(unqV q.data.toList).toArray⟩, .int .i64 (unqE q.data.toList)]) ∧ Below w.heap.size w w' := by
  obtain ⟨m, hm⟩ := he.hm
  have hql : q.data.toList.length = q.size := by simp
  have hb := body_len q.data.toList
  have hk := back_len q.data.toList
  have HB : Hid ((bodyL q.data.toList).length ≤ 9000) := hide (by omega)
  have HK : Hid ((backL q.data.toList).length ≤ 9000) := hide (by omega)
  have HT : Hid ((Lib.trimPrefix q.data.toList [39]).length ≤ 9000) := hide (by unfold Lib.trimPrefix; split <;> simp <;> omega)
  clear hb hk hql
  go_enter Tryd.func26, Tryd.ntmps26
  go_wp2_with fail
  refine (Tryd.strings_TrimPrefix q ⟨#[39]⟩ _).mono ?_
  rintro e w1 ⟨rfl, rfl⟩
  go_wp2_with fail
  refine (Tryd.strings_TrimSuffix _ ⟨#[39]⟩ _ (by have := unhide HT; simp [ByteArray.size]; omega)).mono ?_
  rintro e w1 ⟨rfl, rfl⟩
  go_wp2_with fail
  have eb : Lib.trimSuffix (Lib.trimPrefix q.data.toList [39]) [39] = bodyL q.data.toList := rfl
  rw [eb]
  clear eb
  have hc := Lib.countB_mul_le ⟨#[39, 92, 39, 39]⟩ (by decide) _ ⟨(bodyL q.data.toList).toArray⟩ (Nat.le_refl _)
  have hsz : (⟨(bodyL q.data.toList).toArray⟩ : ByteArray).size ≤ 9000 := by have := unhide HB; simpa [ByteArray.size] using this
  have hlen : (⟨(bodyL q.data.toList).toArray⟩ : ByteArray).size + Lib.countB ⟨(bodyL q.data.toList).toArray⟩ ⟨#[39, 92, 39, 39]⟩ * (⟨#[39]⟩ : ByteArray).size ≤ 140737488355328 := by
    have e4 : (⟨#[39, 92, 39, 39]⟩ : ByteArray).size = 4 := rfl
    have e1 : (⟨#[39]⟩ : ByteArray).size = 1 := rfl
    rw [e4] at hc
    rw [e1]; omega
  refine (Tryd.strings_ReplaceAll ⟨(bodyL q.data.toList).toArray⟩ ⟨#[39, 92, 39, 39]⟩ ⟨#[39]⟩ m _ (by omega) hm (by decide) hlen).mono ?_
  rintro e w2 ⟨rfl, b2⟩
  have er : Lib.replaceAll (⟨(bodyL q.data.toList).toArray⟩ : ByteArray).data.toList (⟨#[39, 92, 39, 39]⟩ : ByteArray).data.toList (⟨#[39]⟩ : ByteArray).data.toList = backL q.data.toList := rfl
  rw [er]
  clear er hlen hc hsz hm
  go_wp2_with fail
  have hks : (⟨(backL q.data.toList).toArray⟩ : ByteArray).size ≤ 10000 := by have := unhide HK; simp [ByteArray.size]; omega
  refine (quote_any ⟨(backL q.data.toList).toArray⟩ _ (he.below b2) hks).mono ?_
  rintro e w3 ⟨rfl, b3⟩
  have eq : (⟨(backL q.data.toList).toArray⟩ : ByteArray).data.toList = backL q.data.toList := rfl
  rw [eq]
  clear eq hks
  have B := hide (b2.trans (b3.mono b2.size))
  by_cases h : quoteL (backL q.data.toList) = q.data.toList
  · have hx : (quoteL (backL q.data.toList) == q.toList) = true := by
      rw [ByteArray.toList_eq]; simpa using h
    have H := hide h
    clear h
    go_wp2
    go_ret2
    exact ⟨ret_se (by unfold unqV; rw [if_pos (unhide H)]) (by unfold unqE; rw [if_pos (unhide H)]), unhide B⟩
  · have hx : (quoteL (backL q.data.toList) == q.toList) = false := by
      rw [ByteArray.toList_eq]; simpa using h
    have H := hide h
    clear h
    go_wp2
    go_ret2
    exact ⟨ret_se (by unfold unqV; rw [if_neg (unhide H)]) (by unfold unqE; rw [if_neg (unhide H)]), unhide B⟩

end Go.Proofs.YtlkeefjbjhmccaaDoor

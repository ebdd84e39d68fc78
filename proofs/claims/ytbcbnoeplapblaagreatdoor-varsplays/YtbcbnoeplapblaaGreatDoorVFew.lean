/-
  Which calls are not too much.
-/
import Derived.Test.YtbcbnoeplapblaaGreatDoorVIn
namespace Go.Proofs.YtbcbnoeplapblaaGreatDoor
open Go.RowKit Go.Maps

def txB (l : List (List UInt8)) : Bool := decide (l.length ≤ 20) && l.all fun x => decide (x.length ≤ 200)
def opB (o : OpP) : Bool := decide (o.name.length ≤ 200) && decide (o.value.length ≤ 200) && txB o.args
def fwB (L : List OpP) : Bool := decide (L.length ≤ 60) && L.all opB
theorem all_stop {α : Type} {p : α → Bool} : ∀ {l : List α} {k : Nat} {x : α}, l[k]? = some x → p x = false → l.all p = false
  | _ :: _, 0, x, h, hp => by
    simp only [List.getElem?_cons_zero, Option.some.injEq] at h
    rw [h, List.all_cons, hp]
    rfl
  | y :: l, k + 1, x, h, hp => by
    rw [List.all_cons, all_stop (l := l) (k := k) (by simpa using h) hp]
    simp
theorem all_done {α : Type} {p : α → Bool} {l : List α} (h : ∀ i x, l[i]? = some x → i < l.length → p x = true) : l.all p = true := by
  rw [List.all_eq_true]
  intro x hx
  obtain ⟨i, hi, rfl⟩ := List.mem_iff_getElem.1 hx
  exact h i _ (List.getElem?_eq_getElem hi) hi
theorem get_ex {α : Type} {l : List α} {k : Nat} (h : k < l.length) : ∃ x, l[k]? = some x := ⟨_, List.getElem?_eq_getElem h⟩
theorem max63 : maxLen = 9223372036854775807 := by decide
set_option maxRecDepth 20000 in
set_option maxHeartbeats 4000000 in
theorem texts_any (v : Value) (l : List (List UInt8)) (w : World) (h : AIn w v l) :
    Calls Tryz.prog 4 #[v] w fun e w' => e = .returned (.bool (txB l)) ∧ w' = w := by
  have HH := hide h
  obtain ⟨ad, cap, rfl, hm, _⟩ := h
  rw [max63] at hm
  by_cases hbig : 20 < l.length
  · have hb1 : (20 : Int) < (l.length : Int) := by omega
    have HR : Hid (txB l = false) := hide (by unfold txB; rw [show decide (l.length ≤ 20) = false by simp; omega]; rfl)
    obtain ⟨n, hn⟩ : ∃ n, n = l.length := ⟨_, rfl⟩
    rw [← hn] at hb1 hm ⊢
    clear hn hbig HH
    go_enter Tryz.func4, Tryz.ntmps4
    go_wp2
    go_ret
    exact ⟨ret_bool (unhide HR).symm, rfl⟩
  · have hb1 : ¬ (20 : Int) < (l.length : Int) := by omega
    have HD : Hid (txB l = l.all fun x => decide (x.length ≤ 200)) := hide (by unfold txB; rw [show decide (l.length ≤ 20) = true by simp; omega]; rfl)
    obtain ⟨n, hn⟩ : ∃ n, n = l.length := ⟨_, rfl⟩
    have HN := hide hn
    rw [← hn] at hb1 hm HH ⊢
    have hnl : n ≤ 20 := by omega
    clear hn hbig
    go_enter Tryz.func4, Tryz.ntmps4
    go_wp2
    go_loop [3] (fun i => ∃ k : Nat, k ≤ n ∧ i = .int .i64 k ∧ Hid (∀ j x, l[j]? = some x → j < k → x.length ≤ 200)) (fun i => n - (intOf i).toNat)
    case atStart => exact ⟨0, Nat.zero_le _, rfl, hide (fun j x _ hj => absurd hj (by omega))⟩
    case round =>
      obtain ⟨k, hk, rfl, HA⟩ := hrel
      by_cases hlt : k < n
      · obtain ⟨x, hx⟩ := get_ex (l := l) (k := k) (by have := unhide HN; omega)
        obtain ⟨ad', cap', e, _, h4⟩ := unhide HH
        rcases h4 with rfl | ⟨g, o, h4, h5, h6⟩
        · simp at hx
        · injection e with e1 e2 e3
          subst e1 h4
          have c0 := h6 k x hx
          have hlt1 : (k : Int) < (n : Int) := by omega
          have hk0 : (0 : Int) ≤ (k : Int) := by omega
          have HX := hide hx
          by_cases hlen : 200 < x.length
          · have hl1 : (200 : Int) < ((BA x).size : Int) := by rw [BA_size]; omega
            have HR : Hid (txB l = false) := hide (by rw [unhide HD]; exact all_stop (unhide HX) (by simp; omega))
            clear h6 e2 e3 hx
            go_wp2
            go_ret
            exact ⟨ret_bool (unhide HR).symm, rfl⟩
          · have hl1 : ¬ (200 : Int) < ((BA x).size : Int) := by rw [BA_size]; omega
            have HLE := hide hlen
            have HA2 : Hid (∀ j y, l[j]? = some y → j < k + 1 → y.length ≤ 200) := hide (fun j y hy hj => by
              by_cases hjk : j = k
              · subst hjk
                rw [unhide HX] at hy
                injection hy with hy
                rw [← hy]
                have := unhide HLE
                omega
              · exact unhide HA j y hy (by omega))
            clear h6 e2 e3 hx hlen
            go_wp2
            go_round
            case rel => exact ⟨k + 1, by omega, by go_num, HA2⟩
            case measure => simp [intOf]; omega
      · have HR : Hid (txB l = true) := hide (by
          rw [unhide HD]
          exact all_done (fun i x hx hi => by have := unhide HA i x hx (by have := unhide HN; omega); simpa using this))
        have hlt1 : ¬ (k : Int) < (n : Int) := by omega
        go_wp2
        go_ret
        exact ⟨ret_bool (unhide HR).symm, rfl⟩
set_option maxRecDepth 20000 in
set_option maxHeartbeats 4000000 in
theorem few_any (v : Value) (L : List OpP) (w : World) (h : OpsAt w v L) :
    Calls Tryz.prog 5 #[v] w fun e w' => e = .returned (.bool (fwB L)) ∧ w' = w := by
  have HH := hide h
  obtain ⟨ad, cap, rfl, hm, _⟩ := h
  rw [max63] at hm
  by_cases hbig : 60 < L.length
  · have hb1 : (60 : Int) < (L.length : Int) := by omega
    have HR : Hid (fwB L = false) := hide (by unfold fwB; rw [show decide (L.length ≤ 60) = false by simp; omega]; rfl)
    obtain ⟨n, hn⟩ : ∃ n, n = L.length := ⟨_, rfl⟩
    rw [← hn] at hb1 hm ⊢
    clear hn hbig HH
    go_enter Tryz.func5, Tryz.ntmps5
    go_wp2
    go_ret
    exact ⟨ret_bool (unhide HR).symm, rfl⟩
  · have hb1 : ¬ (60 : Int) < (L.length : Int) := by omega
    have HD : Hid (fwB L = L.all opB) := hide (by unfold fwB; rw [show decide (L.length ≤ 60) = true by simp; omega]; rfl)
    obtain ⟨n, hn⟩ : ∃ n, n = L.length := ⟨_, rfl⟩
    have HN := hide hn
    rw [← hn] at hb1 hm HH ⊢
    have hnl : n ≤ 60 := by omega
    clear hn hbig
    go_enter Tryz.func5, Tryz.ntmps5
    go_wp2
    go_loop [3] (fun i => ∃ k : Nat, k ≤ n ∧ i = .int .i64 k ∧ Hid (∀ j x, L[j]? = some x → j < k → opB x = true)) (fun i => n - (intOf i).toNat)
    case atStart => exact ⟨0, Nat.zero_le _, rfl, hide (fun j x _ hj => absurd hj (by omega))⟩
    case round =>
      obtain ⟨k, hk, rfl, HA⟩ := hrel
      by_cases hlt : k < n
      · obtain ⟨x, hx⟩ := get_ex (l := L) (k := k) (by have := unhide HN; omega)
        obtain ⟨ad', cap', e, _, h4⟩ := unhide HH
        rcases h4 with rfl | ⟨g, o, h4, h5, h6⟩
        · simp at hx
        · injection e with e1 e2 e3
          subst e1 h4
          obtain ⟨_, a1, a2, _, u, a4, a5⟩ := h6 k x hx
          have hlt1 : (k : Int) < (n : Int) := by omega
          have hk0 : (0 : Int) ≤ (k : Int) := by omega
          have HX := hide hx
          have HT := hide (texts_any u x.args w a5)
          have HA2 : Hid (opB x = true → ∀ j y, L[j]? = some y → j < k + 1 → opB y = true) := hide (fun ho j y hy hj => by
            by_cases hjk : j = k
            · subst hjk
              rw [unhide HX] at hy
              injection hy with hy
              rw [← hy]
              exact ho
            · exact unhide HA j y hy (by omega))
          have HS : Hid (opB x = false → fwB L = false) := hide (fun ho => by rw [unhide HD]; exact all_stop (unhide HX) ho)
          have HO : Hid (opB x = (decide (x.name.length ≤ 200) && decide (x.value.length ≤ 200) && txB x.args)) := hide rfl
          obtain ⟨nm, hnm⟩ : ∃ y, y = x.name.length := ⟨_, rfl⟩
          obtain ⟨vl, hvl⟩ : ∃ y, y = x.value.length := ⟨_, rfl⟩
          obtain ⟨tb, htb⟩ : ∃ y, y = txB x.args := ⟨_, rfl⟩
          rw [← hnm, ← hvl, ← htb] at HO
          rw [← htb] at HT
          have HNM : Hid (nm = x.name.length) := hide hnm
          have HVL : Hid (vl = x.value.length) := hide hvl
          obtain ⟨au, acap, hu, hum, _⟩ := a5
          subst hu
          clear h6 e2 e3 hx hnm hvl htb
          by_cases q1 : 200 < nm
          · have hl1 : (200 : Int) < (x.name.length : Int) := by rw [← unhide HNM]; omega
            have HR : Hid (fwB L = false) := hide (unhide HS (by rw [unhide HO, show decide (nm ≤ 200) = false by simp; omega]; rfl))
            go_wp2
            go_ret
            exact ⟨ret_bool (unhide HR).symm, rfl⟩
          have hl1 : ¬ (200 : Int) < (x.name.length : Int) := by rw [← unhide HNM]; omega
          by_cases q2 : 200 < vl
          · have hl2 : (200 : Int) < (x.value.length : Int) := by rw [← unhide HVL]; omega
            have HR : Hid (fwB L = false) := hide (unhide HS (by rw [unhide HO, show decide (vl ≤ 200) = false by simp; omega]; simp))
            go_wp2
            go_ret
            exact ⟨ret_bool (unhide HR).symm, rfl⟩
          have hl2 : ¬ (200 : Int) < (x.value.length : Int) := by rw [← unhide HVL]; omega
          cases tb with
          | false =>
            have HR : Hid (fwB L = false) := hide (unhide HS (by rw [unhide HO]; simp))
            go_wp2_with fail
            refine (unhide HT).mono ?_
            rintro e w1 ⟨rfl, rfl⟩
            go_wp2
            go_ret
            exact ⟨ret_bool (unhide HR).symm, rfl⟩
          | true =>
            have HR := hide (unhide HA2 (by rw [unhide HO]; simp; omega))
            go_wp2_with fail
            refine (unhide HT).mono ?_
            rintro e w1 ⟨rfl, rfl⟩
            go_wp2
            go_round
            case rel => exact ⟨k + 1, by omega, by go_num, HR⟩
            case measure => simp [intOf]; omega
      · have HR : Hid (fwB L = true) := hide (by
          rw [unhide HD]
          exact all_done (fun i x hx hi => unhide HA i x hx (by have := unhide HN; omega)))
        have hlt1 : ¬ (k : Int) < (n : Int) := by omega
        go_wp2
        go_ret
        exact ⟨ret_bool (unhide HR).symm, rfl⟩

end Go.Proofs.YtbcbnoeplapblaaGreatDoor

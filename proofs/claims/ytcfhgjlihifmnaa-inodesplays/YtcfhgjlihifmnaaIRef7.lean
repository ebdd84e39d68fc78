/-
  The document's table: New, Read.
-/
import Derived.Test.YtcfhgjlihifmnaaIRef4
namespace Go.Proofs.Ytcfhgjlihifmnaa
open Go.RowKit Go.Maps

def znode : Array Value := #[.int .i64 0, .int .i64 0, .int .i64 0, .string ⟨#[]⟩, .slice none 0 0]
theorem made_any (z : Array Value) (m k : Nat) (hk : k < m) (hp : 0 < z.size) : (madeCells z m)[k]? = z[k % z.size]? := by
  unfold madeCells
  have h1 : k % z.size < z.size := Nat.mod_lt _ hp
  simp [hk, h1]
theorem znode_at {j : Nat} (h : j < 5) : znode[j]? = some (rcell 0 0 none j) := by
  match j, h with
  | 0, _ => rfl
  | 1, _ => rfl
  | 2, _ => rfl
  | 3, _ => rfl
  | 4, _ => rfl
theorem mk_rnodes (n : Nat) (hn : n ≤ 1025) : ∃ cs : Array Value, cs.size = n * 5 ∧ (∀ i j, i < n → j < 5 → cs[i * 5 + j]? = some (rcell 0 0 none j)) ∧ ∀ u : World, (Instr.makeSlice 67 (.int .i64 (n : Int)) (.int .i64 (n : Int))).run Try.prog u = .ok (.slice (some ⟨u.heap.size, 0, none⟩) n n) (u.alloc (.cells cs 44)) := by
  obtain ⟨i, hi, hz, hs, hb⟩ := info2 (t := 44) (z := some (.agg znode)) (a := 5) (c := 64) (by kernel_rfl)
  refine ⟨madeCells znode (n * 5), size_madeCells _ _, fun k j hk hj => ?_, fun u => ?_⟩
  · rw [made_any znode (n * 5) (k * 5 + j) (by omega) (by decide), show (k * 5 + j) % znode.size = j by show (k * 5 + j) % 5 = j; omega]
    exact znode_at hj
  · have := run_make (P := Try.prog) u 67 44 i (.agg znode) (by kernel_rfl) hi hz .i64 .i64 n n (by omega) (Int.le_refl _) (by rw [hb]; omega) (by omega)
    rw [hs] at this
    simpa [Value.cells] using this
theorem RL.fresh {w : World} {n nb q r : Nat} {cs : Array Value} (h1 : 1 ≤ n) (h2 : n ≤ 1024) (kq : Blk w q 69 #[.slice (some ⟨r, 0, none⟩) (n + 1) (n + 1), .int .i64 (nb : Int)]) (kr : Blk w r 44 cs) (hc : cs.size = (n + 1) * 5) (hz : ∀ i j, i < n + 1 → j < 5 → cs[i * 5 + j]? = some (rcell 0 0 none j)) :
    RL w q ⟨r, n + 1, fun _ => 0, fun _ => 0⟩ (List.replicate n none) nb := by
  have hno : ∀ (i : Nat) (x : Nd), (List.replicate n (none : Option Nd))[i]? = some (some x) → False := fun i x h => by
    rw [List.getElem?_replicate] at h
    split at h
    · injection h with h
      cases h
    · cases h
  have hm : (1025 : Nat) ≤ maxLen := by decide
  refine ⟨by simpa using h1, by simpa using h2, by rw [List.length_replicate]; exact kq, ⟨cs, kr, hc, by simp, by show n + 1 ≤ maxLen; omega, fun i o ho j hj => ?_⟩, fun i x h => (hno i x h).elim, fun i j x y h => (hno i x h).elim⟩
  have hil : i < n + 1 := by
    have := (List.getElem?_eq_some_iff.1 ho).1
    simpa using this
  have e : o = none := by
    cases i with
    | zero => simpa using ho.symm
    | succ i =>
      cases o with
      | none => rfl
      | some x => exact (hno i x ho).elim
  subst e
  exact hz i j hil hj
set_option maxRecDepth 20000 in
set_option maxHeartbeats 1000000 in
theorem rnew_no (n b : Int) (w : World) (h : (n < 1 ∨ 1024 < n) ∨ b < 1 ∨ 4096 < b) : Calls Try.prog 10 #[.int .i64 n, .int .i64 b] w fun e w' => e = .returned (.tuple #[.pointer none, .int .i64 1]) ∧ w' = w := by
  have hc : n < 1 ∨ (¬ n < 1 ∧ 1024 < n) ∨ (¬ n < 1 ∧ ¬ 1024 < n ∧ b < 1) ∨ (¬ n < 1 ∧ ¬ 1024 < n ∧ ¬ b < 1 ∧ 4096 < b) := by omega
  clear h
  rcases hc with h1 | ⟨h1, h2⟩ | ⟨h1, h2, h3⟩ | ⟨h1, h2, h3, h4⟩
  all_goals
    go_enter Try.func10, Try.ntmps10
    go_wp2
    go_ret2
    exact ⟨rfl, rfl⟩
set_option maxRecDepth 20000 in
set_option maxHeartbeats 1000000 in
theorem rnew_any (n b : Nat) (w : World) (h1 : 1 ≤ n) (h2 : n ≤ 1024) (h3 : 1 ≤ b) (h4 : b ≤ 4096) : Calls Try.prog 10 #[.int .i64 (n : Int), .int .i64 (b : Int)] w fun e w' => ∃ q, e = .returned (.tuple #[.pointer (some ⟨q, 0, none⟩), .int .i64 0]) ∧ Hid (RAt w' q (fun k => w.heap.size ≤ k) (List.replicate n none) b ∧ Below w.heap.size w w') := by
  obtain ⟨cs, hc, hz, hmk⟩ := mk_rnodes (n + 1) (by omega)
  have n1 : ¬ (n : Int) < 1 := by omega
  have n2 : ¬ (1024 : Int) < (n : Int) := by omega
  have n3 : ¬ (b : Int) < 1 := by omega
  have n4 : ¬ (4096 : Int) < (b : Int) := by omega
  have hmk2 : ∀ u : World, (Instr.makeSlice 67 (.int .i64 ((n : Int) + 1)) (.int .i64 ((n : Int) + 1))).run Try.prog u = .ok (.slice (some ⟨u.heap.size, 0, none⟩) (n + 1) (n + 1)) (u.alloc (.cells cs 44)) := hmk
  have HE : Hid (∀ w3, w3 = ((w.alloc (.cells cs 44)).alloc (.cells #[.slice (some ⟨w.heap.size, 0, none⟩) (n + 1) (n + 1), .int .i64 (b : Int)] 69)) → RAt w3 (w.heap.size + 1) (fun k => w.heap.size ≤ k) (List.replicate n none) b ∧ Below w.heap.size w w3) := hide (fun w3 hw3 => by
    subst hw3
    have e1 : (w.alloc (.cells cs 44)).heap.size = w.heap.size + 1 := by simp
    have kq := Blk.new (w.alloc (.cells cs 44)) 69 #[.slice (some ⟨w.heap.size, 0, none⟩) (n + 1) (n + 1), .int .i64 (b : Int)]
    rw [e1] at kq
    refine ⟨⟨_, RL.fresh h1 h2 kq ((Blk.new w _ cs).alloc _) hc hz, ⟨by omega, Nat.le_refl _, fun i x h => ?_⟩⟩, ((Below.refl _ w).alloc (Nat.le_refl _) _).alloc (by simp) _⟩
    rw [List.getElem?_replicate] at h
    split at h
    · injection h with h
      cases h
    · cases h)
  clear hc hz h1 h2 h3 h4 hmk
  go_enter Try.func10, Try.ntmps10
  go_wp2
  go_ret2
  exact ⟨_, rfl, hide (unhide HE _ rfl)⟩
set_option maxRecDepth 20000 in
set_option maxHeartbeats 1000000 in
theorem rread_any {w : World} {q nb : Nat} {Y : Nat → Prop} {T : TB} (H : RAt w q Y T nb) (hgd : ∀ (k : Nat) (x : Nd), T[k]? = some (some x) → 1 ≤ x.kind ∧ x.size ≤ 4096) (i a n : Int) (hb : -9223372036854775808 ≤ i ∧ i ≤ 9223372036854775807) (ha : a ≤ 9223372036854775807) :
    Calls Try.prog 40 #[.pointer (some ⟨q, 0, none⟩), .int .i64 i, .int .i64 a, .int .i64 n] w fun e w' => e = .returned (.tuple #[.string (BA (rdT T i a n)), .int .i64 (rdE T i a n)]) ∧ w' = w := by
  obtain ⟨K, HL, hin⟩ := H
  have HI := hide (ris_any HL (fun k x hx => (hgd k x hx).1) i hb)
  unfold rdT rdE
  cases hx : ndAt T i with
  | none =>
    rw [hx] at HI
    clear HL hx hin
    go_enter Try.func40, Try.ntmps40
    go_wp2_with fail
    refine (unhide HI).mono ?_
    rintro e w1 ⟨rfl, hw1⟩
    rw [show w1 = w from hw1]
    clear hw1
    go_wp2
    go_ret2
    exact ⟨rfl, rfl⟩
  | some x =>
    rw [hx] at HI
    obtain ⟨k, rfl, hk, hkn⟩ := ndAt_some hx
    dsimp only
    by_cases hbad : a < 0 ∨ n < 0
    · rw [if_pos hbad, if_pos hbad]
      have hc : a < 0 ∨ (¬ a < 0 ∧ n < 0) := by omega
      clear HL hx hin hk hkn hbad
      rcases hc with h1 | ⟨h1, h2⟩
      all_goals
        go_enter Try.func40, Try.ntmps40
        go_wp2_with fail
        refine (unhide HI).mono ?_
        rintro e w1 ⟨rfl, hw1⟩
        rw [show w1 = w from hw1]
        clear hw1
        go_wp2
        go_ret2
        exact ⟨rfl, rfl⟩
    · rw [if_neg hbad, if_neg hbad]
      obtain ⟨a', rfl⟩ : ∃ a' : Nat, a = a' := ⟨a.toNat, by omega⟩
      obtain ⟨n', rfl⟩ : ∃ n' : Nat, n = n' := ⟨n.toNat, by omega⟩
      simp only [Int.toNat_natCast]
      have q0 := HL.tab.cell 0 rfl
      change _ = some (Value.slice (some ⟨K.r, 0, none⟩) (T.length + 1) K.c) at q0
      have c3 := (HL.cellN hk (j := 3) (by decide)).1
      change _ = some (Value.string (BA (datOf x))) at c3
      have hmx := HL.max
      have hsz := (hgd k x hk).2
      obtain ⟨dd, hdd⟩ : ∃ dd, dd = BA (datOf x) := ⟨_, rfl⟩
      have hds : dd.size = x.size := by rw [hdd]; exact datOf_len x
      rw [← hdd] at c3
      have h1 : ¬ (a' : Int) < 0 := by omega
      have h2 : ¬ (n' : Int) < 0 := by omega
      obtain ⟨m, hm⟩ : ∃ m, m = T.length := ⟨_, rfl⟩
      obtain ⟨r, hr⟩ : ∃ r, r = K.r := ⟨_, rfl⟩
      obtain ⟨c, hc⟩ : ∃ c, c = K.c := ⟨_, rfl⟩
      obtain ⟨sz, hsz2⟩ : ∃ sz, sz = x.size := ⟨_, rfl⟩
      rw [← hm, ← hr, ← hc] at q0
      rw [← hr] at c3
      rw [← hsz2] at hds hsz
      have h3 : (k : Int) + 1 < (m : Int) + 1 := by omega
      have h4 : (0 : Int) ≤ (k : Int) + 1 := by omega
      by_cases hgt : sz < a'
      · have e0 : ((datOf x).drop a').take n' = [] := by
          rw [List.drop_eq_nil_of_le (by rw [datOf_len]; omega)]
          simp
        rw [e0]
        have h5 : (sz : Int) < (a' : Int) := by omega
        clear HL hx hin hk hkn hbad hm hr hc hsz2 hgt e0 hdd hgd
        go_enter Try.func40, Try.ntmps40
        go_wp2_with fail
        refine (unhide HI).mono ?_
        rintro e w1 ⟨rfl, hw1⟩
        rw [show w1 = w from hw1]
        clear hw1
        go_wp2
        go_ret2
        exact ⟨rfl, rfl⟩
      · have h5 : ¬ (sz : Int) < (a' : Int) := by omega
        obtain ⟨l, hl⟩ : ∃ l, l = min n' (sz - a') := ⟨_, rfl⟩
        have hmin : min (n' : Int) ((sz : Int) - (a' : Int)) = (l : Int) := by omega
        obtain ⟨e1, he1⟩ : ∃ e1, e1 = a' + l := ⟨_, rfl⟩
        have hadd : (a' : Int) + (l : Int) = (e1 : Int) := by omega
        have hex : dd.extract a' e1 = BA (((datOf x).drop a').take n') := by
          rw [hdd, he1, extract_take (BA (datOf x)) a' l, BA_list]
          congr 1
          rw [hl]
          by_cases h6 : n' ≤ sz - a'
          · rw [Nat.min_eq_left h6]
          · rw [Nat.min_eq_right (by omega), List.take_of_length_le (by rw [List.length_drop, datOf_len]; omega), List.take_of_length_le (by rw [List.length_drop, datOf_len]; omega)]
        obtain ⟨R, hR⟩ : ∃ R, R = BA (((datOf x).drop a').take n') := ⟨_, rfl⟩
        rw [← hR] at hex ⊢
        have h6 : (a' : Int) ≤ (e1 : Int) := by omega
        have h7 : (e1 : Int) ≤ (sz : Int) := by omega
        have h8 : a' ≤ 4096 := by omega
        have h9 : l ≤ 4096 := by omega
        clear HL hx hin hk hkn hbad hm hr hc hsz2 hgt hdd hgd hR hl he1
        go_enter Try.func40, Try.ntmps40
        go_wp2_with fail
        refine (unhide HI).mono ?_
        rintro e w1 ⟨rfl, hw1⟩
        rw [show w1 = w from hw1]
        clear hw1
        go_wp2
        go_ret2
        exact ⟨rfl, rfl⟩

end Go.Proofs.Ytcfhgjlihifmnaa

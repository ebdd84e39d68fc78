/-
  Package word's long.
-/
import Derived.Test.YtodcfgbcigjjfaaDoorWBrc
import Derived.Deep.Cut
namespace Go.Proofs.YtodcfgbcigjjfaaDoor
open Go.RowKit

def LgEnd (r : Bd) (k : Nat) (w : World) (b : Nat) (X : Nat → Prop) (ps : List Prt) (e : Ending) (w' : World) : Prop :=
  match r with
  | .ok p => e = .returned (.int .i64 0) ∧ Adds w b X (addP ps (setQ (allW k) p)) w'
  | .err x => e = .returned (.int .i64 x) ∧ x ≠ 0 ∧ GrownS w w' X
theorem run_quote (l : List UInt8) : ∃ kk t, runP l = .mk kk t false 0 false [] := by
  unfold runP
  split
  · exact ⟨_, _, rfl⟩
  · exact ⟨_, _, rfl⟩
theorem brc_quote {rd : Nat → List UInt8 → Rd} {w : Nat} {l : List UInt8} {p : Prt} (h : brcL rd w l = .ok p) : p.quote = false := by
  unfold brcL at h
  repeat' split at h
  all_goals first
    | (cases h; done)
    | (cases h; rfl)

set_option maxRecDepth 20000 in
set_option maxHeartbeats 4000000 in
theorem long_run (k : Nat) (u : List UInt8) (w : World) (b : Nat) (X : Nat → Prop) (ps : List Prt) (he : WEnv w) (hk : k < 6) (h : LSt w b X ps) (hul : u.length ≤ 4096) (hu2 : 2 ≤ u.length) (hr : Room ps (u.length + 2)) (h40 : u.head? = some 40) :
    Calls Tryd.prog 57 #[.int .i64 (k : Int), .string (BA u), (.func (Fn.func 32) #[.pointer (some ⟨b, 0, none⟩)] #[])] w fun e w' => LgEnd (.ok (runP (u.drop 1).dropLast)) k w b X ps e w' := by
  obtain ⟨n, hn⟩ : ∃ n, u.length = n + 1 := ⟨u.length - 1, by omega⟩
  have hwn : IntKind.i64.wrap ((u.length : Int) - 1) = (n : Int) := by rw [IntKind.wrap_i64]; omega
  have hn1 : (1 : Int) ≤ (n : Int) := by omega
  have hnb : (n : Int) ≤ 5000 := by omega
  have hn2 : (n : Int) ≤ (u.length : Int) := by omega
  have h2w := he.two
  have HX : Hid ((BA u).extract 1 n = BA (u.drop 1).dropLast) := hide (by have := ext_mid (BA u); rw [BA_size, hn, Nat.add_sub_cancel] at this; exact this)
  obtain ⟨m, hm⟩ : ∃ m, m = (u.drop 1).dropLast := ⟨_, rfl⟩
  have hml : m.length ≤ u.length - 2 := by rw [hm]; exact mid_len u
  rw [← hm] at HX
  have hb0 : Below w.heap.size w (w.alloc (.cells #[.int .i64 0, .string ⟨#[]⟩, .bool false, .int .i64 0, .bool false, .slice none 0 0] 35)) := (Below.refl _ w).alloc (Nat.le_refl _) _
  have HXhi := hide h.hi
  have hbw := h.lt
  match u, hu2 with
  | c0 :: u', _ =>
  have hsz0 : (0 : Int) < ((u'.length : Int) + 1) := by omega
  have hcc : c0 = 40 := by simpa using h40
  have hc40 : (((BA (c0 :: u'))[0]'(by simp)).toNat : Int) = 40 := by show (c0.toNat : Int) = 40; rw [hcc]; rfl
  have HRUN := hide (fun W => run_any (BA m) W (by simp only [BA_size, List.length_cons] at *; omega))
  simp only [BA_list] at HRUN
  obtain ⟨kk, t, hrun⟩ := run_quote m
  have htl := run_text m
  rw [← hm, hrun]
  rw [hrun] at HRUN htl
  have htl : t.length ≤ m.length := htl
  simp only [List.length_cons] at hul hml
  have HRUN' : Hid (∀ W, Calls Tryd.prog 72 #[.string (BA m)] W fun e w' => e = .returned (.agg #[.int .i64 kk, .string (BA t), .bool false, .int .i64 0, .bool false, .slice none 0 0]) ∧ Below W.heap.size W w') := HRUN
  clear hrun hm h40 hcc HRUN
  go_enter Tryd.func57, Tryd.ntmps57
  go_wp2_with fail
  rw [unhide HX]
  refine (unhide HRUN' _).mono ?_
  rintro e w1 ⟨rfl, b1⟩
  have HZ1 := hide (Blk.below (Blk.new w 35 #[.int .i64 0, .string ⟨#[]⟩, .bool false, .int .i64 0, .bool false, .slice none 0 0]) b1 (by simp))
  have HB1 := hide (hb0.trans (b1.mono (by simp)))
  have y0 : w1.cell? ⟨w.heap.size, 0, none⟩ = some (.int .i64 0) := (unhide HZ1).cell 0 rfl
  have y1 : w1.cell? ⟨w.heap.size, 1, none⟩ = some (.string ⟨#[]⟩) := (unhide HZ1).cell 1 rfl
  have y2 : w1.cell? ⟨w.heap.size, 2, none⟩ = some (.bool false) := (unhide HZ1).cell 2 rfl
  have y3 : w1.cell? ⟨w.heap.size, 3, none⟩ = some (.int .i64 0) := (unhide HZ1).cell 3 rfl
  have y4 : w1.cell? ⟨w.heap.size, 4, none⟩ = some (.bool false) := (unhide HZ1).cell 4 rfl
  have y5 : w1.cell? ⟨w.heap.size, 5, none⟩ = some (.slice none 0 0) := (unhide HZ1).cell 5 rfl
  have yf : ∀ j, w1.frozen? ⟨w.heap.size, j, none⟩ = false := fun j => (unhide HZ1).frozen j
  go_upto_region 9 with fail
  obtain ⟨w2, hw2⟩ : ∃ x, x = ((((((w1.setCell ⟨w.heap.size, 0, none⟩ (.int .i64 kk)).setCell ⟨w.heap.size, 1, none⟩ (.string (BA t))).setCell ⟨w.heap.size, 2, none⟩ (.bool false)).setCell ⟨w.heap.size, 3, none⟩ (.int .i64 0)).setCell ⟨w.heap.size, 4, none⟩ (.bool false)).setCell ⟨w.heap.size, 5, none⟩ (.slice none 0 0)) := ⟨_, rfl⟩
  have HT : Hid (GrownS w1 w2 (fun k => k = w.heap.size) ∧ Blk w2 w.heap.size 35 #[.int .i64 kk, .string (BA t), .bool false, .int .i64 0, .bool false, (.slice none 0 0)]) := hide (by rw [hw2]; exact ⟨T6_grown w1 w.heap.size 0 (.int .i64 kk) (.string (BA t)) (.bool false) (.int .i64 0) (.bool false) (.slice none 0 0), blk_T6 (unhide HZ1) _ _ _ _ _ _⟩)
  rw [← hw2]
  clear hw2 y0 y1 y2 y3 y4 y5 yf
  have HB2 : Hid (Below w.heap.size w w2) := hide ((unhide HB1).trans ((unhide HT).1.below (unhide HB1).size (fun k e => by omega)))
  have HBT : Hid (Below w.heap.size w (w2.setCell ⟨w.heap.size, 2, none⟩ (.bool (allW k)))) := hide ((unhide HB2).setCell (p := ⟨w.heap.size, 2, none⟩) (Nat.le_refl _) _)
  have r2 : w2.cell? ⟨0, k * 4 + 2, none⟩ = some (.bool (allW k)) := (he.below ((unhide HB2).mono (by omega))).r2 k hk
  have q0 : w2.cell? ⟨w.heap.size, 0, none⟩ = some (.int .i64 kk) := (unhide HT).2.cell 0 rfl
  have q1 : w2.cell? ⟨w.heap.size, 1, none⟩ = some (.string (BA t)) := (unhide HT).2.cell 1 rfl
  have q2 : w2.cell? ⟨w.heap.size, 2, none⟩ = some (.bool false) := (unhide HT).2.cell 2 rfl
  have q3 : w2.cell? ⟨w.heap.size, 3, none⟩ = some (.int .i64 0) := (unhide HT).2.cell 3 rfl
  have q4 : w2.cell? ⟨w.heap.size, 4, none⟩ = some (.bool false) := (unhide HT).2.cell 4 rfl
  have q5 : w2.cell? ⟨w.heap.size, 5, none⟩ = some (.slice none 0 0) := (unhide HT).2.cell 5 rfl
  have qf : w2.frozen? ⟨w.heap.size, 2, none⟩ = false := (unhide HT).2.frozen 2
  have HAD : Hid (Calls Tryd.prog 32 #[.pointer (some ⟨b, 0, none⟩), .agg #[.int .i64 kk, .string (BA t), .bool (allW k), .int .i64 0, .bool false, (.slice none 0 0)]] (w2.setCell ⟨w.heap.size, 2, none⟩ (.bool (allW k))) fun e w' => e = .returned (.tuple #[]) ∧ Adds w b X (addP ps (.mk kk t (allW k) 0 false [])) w') := hide (by
    refine (ladd_any _ b X (fun _ => False) ps _ (.mk kk t (allW k) 0 false []) (h.below (unhide HBT)) ⟨_, rfl, ?_⟩ ?_ (by have := hr.1; simp only [List.length_cons] at this; omega) (by have := hr.2; simp only [List.length_cons] at this; show tlen ps + List.length t ≤ _; omega)).mono (fun e w' ⟨h1, h3⟩ => ⟨h1, Adds.of_below (unhide HBT) h3⟩)
    · exact wat_nil _ _ _ _
    · exact fun _ h => h.elim)
  clear b1 he h hr
  go_wp2_with fail
  refine (unhide HAD).mono ?_
  rintro e w9 ⟨rfl, a9⟩
  go_wp2
  go_ret
  exact ⟨rfl, a9⟩
set_option maxRecDepth 20000 in
set_option maxHeartbeats 4000000 in
theorem long_brc {N : Nat} (hW : WordN N) (k : Nat) (u : List UInt8) (w : World) (b : Nat) (X : Nat → Prop) (ps : List Prt) (he : WEnv w) (hk : k < 6) (h : LSt w b X ps) (hul : u.length ≤ 4096) (hu2 : 2 ≤ u.length) (hr : Room ps (u.length + 2)) (huN : u.length ≤ N) (h40 : u.head? ≠ some 40) :
    Calls Tryd.prog 57 #[.int .i64 (k : Int), .string (BA u), (.func (Fn.func 32) #[.pointer (some ⟨b, 0, none⟩)] #[])] w fun e w' => LgEnd (brcL (rdC true) k (u.drop 1).dropLast) k w b X ps e w' := by
  obtain ⟨n, hn⟩ : ∃ n, u.length = n + 1 := ⟨u.length - 1, by omega⟩
  have hwn : IntKind.i64.wrap ((u.length : Int) - 1) = (n : Int) := by rw [IntKind.wrap_i64]; omega
  have hn1 : (1 : Int) ≤ (n : Int) := by omega
  have hnb : (n : Int) ≤ 5000 := by omega
  have hn2 : (n : Int) ≤ (u.length : Int) := by omega
  have h2w := he.two
  have HX : Hid ((BA u).extract 1 n = BA (u.drop 1).dropLast) := hide (by have := ext_mid (BA u); rw [BA_size, hn, Nat.add_sub_cancel] at this; exact this)
  obtain ⟨m, hm⟩ : ∃ m, m = (u.drop 1).dropLast := ⟨_, rfl⟩
  have hml : m.length ≤ u.length - 2 := by rw [hm]; exact mid_len u
  rw [← hm] at HX
  have hb0 : Below w.heap.size w (w.alloc (.cells #[.int .i64 0, .string ⟨#[]⟩, .bool false, .int .i64 0, .bool false, .slice none 0 0] 35)) := (Below.refl _ w).alloc (Nat.le_refl _) _
  have HXhi := hide h.hi
  have hbw := h.lt
  match u, hu2 with
  | c0 :: u', _ =>
  have hsz0 : (0 : Int) < ((u'.length : Int) + 1) := by omega
  have hc40 : ((((BA (c0 :: u'))[0]'(by simp)).toNat : Int) == 40) = false := by
    show ((c0.toNat : Int) == 40) = false
    rw [beq_eq_false_iff_ne]
    intro e
    exact h40 (by simp [UInt8.toNat_inj.1 (show c0.toNat = (40 : UInt8).toNat by show c0.toNat = 40; omega)])
  simp only [List.length_cons] at hul hml huN
  have HBR := hide (fun W (hE : WEnv W) => wbrace_any hW k m W hE hk (by omega) (by omega))
  rw [← hm]
  have hqt : ∀ p, brcL (rdC true) k m = .ok p → p.quote = false ∧ p.text.length ≤ m.length := fun p hp => ⟨brc_quote hp, brc_text hp⟩
  obtain ⟨R, hR⟩ : ∃ R, R = brcL (rdC true) k m := ⟨_, rfl⟩
  rw [← hR] at HBR hqt ⊢
  clear hR hm h40 hW
  cases R with
  | err x =>
    have HBR' : Hid (∀ W, WEnv W → Calls Tryd.prog 73 _ W fun e w' => e = .returned (.tuple #[.agg #[.int .i64 0, .string ⟨#[]⟩, .bool false, .int .i64 0, .bool false, .slice none 0 0], .int .i64 x]) ∧ x ≠ 0 ∧ Below W.heap.size W w') := HBR
    have HE0 := hide (he.below (hb0.mono (by omega)))
    clear HBR hqt
    go_enter Tryd.func57, Tryd.ntmps57
    go_wp2_with fail
    rw [unhide HX]
    refine (unhide HBR' _ (unhide HE0)).mono ?_
    rintro e w1 ⟨rfl, hx, b1⟩
    have hx1 : (x != 0) = true := by simpa using hx
    have HXX := hide hx
    have HZ1 := hide (Blk.below (Blk.new w 35 #[.int .i64 0, .string ⟨#[]⟩, .bool false, .int .i64 0, .bool false, .slice none 0 0]) b1 (by simp))
    have HB1 := hide (hb0.trans (b1.mono (by simp)))
    have y0 : w1.cell? ⟨w.heap.size, 0, none⟩ = some (.int .i64 0) := (unhide HZ1).cell 0 rfl
    have y1 : w1.cell? ⟨w.heap.size, 1, none⟩ = some (.string ⟨#[]⟩) := (unhide HZ1).cell 1 rfl
    have y2 : w1.cell? ⟨w.heap.size, 2, none⟩ = some (.bool false) := (unhide HZ1).cell 2 rfl
    have y3 : w1.cell? ⟨w.heap.size, 3, none⟩ = some (.int .i64 0) := (unhide HZ1).cell 3 rfl
    have y4 : w1.cell? ⟨w.heap.size, 4, none⟩ = some (.bool false) := (unhide HZ1).cell 4 rfl
    have y5 : w1.cell? ⟨w.heap.size, 5, none⟩ = some (.slice none 0 0) := (unhide HZ1).cell 5 rfl
    have yf : ∀ j, w1.frozen? ⟨w.heap.size, j, none⟩ = false := fun j => (unhide HZ1).frozen j
    clear b1 hx
    go_wp2
    go_ret
    exact ⟨rfl, unhide HXX, grownS_of_below (((unhide HB1).trans ((T6_grown w1 w.heap.size 0 (.int .i64 0) (.string ⟨#[]⟩) (.bool false) (.int .i64 0) (.bool false) (.slice none 0 0)).below (unhide HB1).size (fun k e => by omega))))⟩
  | ok p =>
    have HBR' : Hid (∀ W, WEnv W → Calls Tryd.prog 73 _ W fun e w' => ∃ v, e = .returned (.tuple #[.agg #[.int .i64 p.kind, .string (BA p.text), .bool p.quote, .int .i64 p.op, .bool p.colon, v], .int .i64 0]) ∧ Below W.heap.size W w' ∧ WAt w' (fun k => W.heap.size ≤ k ∧ k < w'.heap.size) v p.sub) := HBR
    obtain ⟨hq, htl⟩ := hqt p rfl
    clear HBR hqt
    obtain ⟨kk, t, qq, oo, cc, ss⟩ := p
    simp only [Prt.kind, Prt.text, Prt.quote, Prt.op, Prt.colon] at HBR'
    have hq : qq = false := hq
    subst hq
    have htl : t.length ≤ m.length := htl
    have HE0 := hide (he.below (hb0.mono (by omega)))
    go_enter Tryd.func57, Tryd.ntmps57
    go_wp2_with fail
    rw [unhide HX]
    refine (unhide HBR' _ (unhide HE0)).mono ?_
    rintro e w1 ⟨v, rfl, b1, hv⟩
    have hv : WAt w1 (fun k => (w.alloc (.cells #[.int .i64 0, .string ⟨#[]⟩, .bool false, .int .i64 0, .bool false, .slice none 0 0] 35)).heap.size ≤ k ∧ k < w1.heap.size) v ss := hv
    obtain ⟨va, vc, rfl, _⟩ := hv.len
    have HZ1 := hide (Blk.below (Blk.new w 35 #[.int .i64 0, .string ⟨#[]⟩, .bool false, .int .i64 0, .bool false, .slice none 0 0]) b1 (by simp))
    have HB1 := hide (hb0.trans (b1.mono (by simp)))
    have y0 : w1.cell? ⟨w.heap.size, 0, none⟩ = some (.int .i64 0) := (unhide HZ1).cell 0 rfl
    have y1 : w1.cell? ⟨w.heap.size, 1, none⟩ = some (.string ⟨#[]⟩) := (unhide HZ1).cell 1 rfl
    have y2 : w1.cell? ⟨w.heap.size, 2, none⟩ = some (.bool false) := (unhide HZ1).cell 2 rfl
    have y3 : w1.cell? ⟨w.heap.size, 3, none⟩ = some (.int .i64 0) := (unhide HZ1).cell 3 rfl
    have y4 : w1.cell? ⟨w.heap.size, 4, none⟩ = some (.bool false) := (unhide HZ1).cell 4 rfl
    have y5 : w1.cell? ⟨w.heap.size, 5, none⟩ = some (.slice none 0 0) := (unhide HZ1).cell 5 rfl
    have yf : ∀ j, w1.frozen? ⟨w.heap.size, j, none⟩ = false := fun j => (unhide HZ1).frozen j
    go_upto_region 9 with fail
    obtain ⟨w2, hw2⟩ : ∃ x, x = ((((((w1.setCell ⟨w.heap.size, 0, none⟩ (.int .i64 kk)).setCell ⟨w.heap.size, 1, none⟩ (.string (BA t))).setCell ⟨w.heap.size, 2, none⟩ (.bool false)).setCell ⟨w.heap.size, 3, none⟩ (.int .i64 oo)).setCell ⟨w.heap.size, 4, none⟩ (.bool cc)).setCell ⟨w.heap.size, 5, none⟩ (.slice va ss.length vc)) := ⟨_, rfl⟩
    have HT : Hid (GrownS w1 w2 (fun k => k = w.heap.size) ∧ Blk w2 w.heap.size 35 #[.int .i64 kk, .string (BA t), .bool false, .int .i64 oo, .bool cc, (.slice va ss.length vc)]) := hide (by rw [hw2]; exact ⟨T6_grown w1 w.heap.size 0 (.int .i64 kk) (.string (BA t)) (.bool false) (.int .i64 oo) (.bool cc) (.slice va ss.length vc), blk_T6 (unhide HZ1) _ _ _ _ _ _⟩)
    rw [← hw2]
    clear hw2 y0 y1 y2 y3 y4 y5 yf
    have HB2 : Hid (Below w.heap.size w w2) := hide ((unhide HB1).trans ((unhide HT).1.below (unhide HB1).size (fun k e => by omega)))
    have HBT : Hid (Below w.heap.size w (w2.setCell ⟨w.heap.size, 2, none⟩ (.bool (allW k)))) := hide ((unhide HB2).setCell (p := ⟨w.heap.size, 2, none⟩) (Nat.le_refl _) _)
    have r2 : w2.cell? ⟨0, k * 4 + 2, none⟩ = some (.bool (allW k)) := (he.below ((unhide HB2).mono (by omega))).r2 k hk
    have q0 : w2.cell? ⟨w.heap.size, 0, none⟩ = some (.int .i64 kk) := (unhide HT).2.cell 0 rfl
    have q1 : w2.cell? ⟨w.heap.size, 1, none⟩ = some (.string (BA t)) := (unhide HT).2.cell 1 rfl
    have q2 : w2.cell? ⟨w.heap.size, 2, none⟩ = some (.bool false) := (unhide HT).2.cell 2 rfl
    have q3 : w2.cell? ⟨w.heap.size, 3, none⟩ = some (.int .i64 oo) := (unhide HT).2.cell 3 rfl
    have q4 : w2.cell? ⟨w.heap.size, 4, none⟩ = some (.bool cc) := (unhide HT).2.cell 4 rfl
    have q5 : w2.cell? ⟨w.heap.size, 5, none⟩ = some (.slice va ss.length vc) := (unhide HT).2.cell 5 rfl
    have qf : w2.frozen? ⟨w.heap.size, 2, none⟩ = false := (unhide HT).2.frozen 2
    have HAD : Hid (Calls Tryd.prog 32 #[.pointer (some ⟨b, 0, none⟩), .agg #[.int .i64 kk, .string (BA t), .bool (allW k), .int .i64 oo, .bool cc, (.slice va ss.length vc)]] (w2.setCell ⟨w.heap.size, 2, none⟩ (.bool (allW k))) fun e w' => e = .returned (.tuple #[]) ∧ Adds w b X (addP ps (.mk kk t (allW k) oo cc ss)) w') := hide (by
      refine (ladd_any _ b X (fun k => w.heap.size + 1 ≤ k ∧ k < w1.heap.size) ps _ (.mk kk t (allW k) oo cc ss) (h.below (unhide HBT)) ⟨_, rfl, ?_⟩ ?_ (by have := hr.1; simp only [List.length_cons] at this; omega) (by have := hr.2; simp only [List.length_cons] at this; show tlen ps + List.length t ≤ _; omega)).mono (fun e w' ⟨h1, h3⟩ => ⟨h1, Adds.of_below (unhide HBT) h3⟩)
      · refine (hv.kept (fun k hk => ?_) (fun k hk => ⟨by simpa using hk.1, hk.2⟩))
        have hk1 : w.heap.size + 1 ≤ k := by simpa using hk.1
        rw [Below.heap_setCell _ _ _ k (by show k ≠ w.heap.size; omega)]
        exact (unhide HT).1.block k hk.2 (by omega)
      · exact fun k hk => ⟨by omega, Nat.lt_of_lt_of_le hk.2 (by have := (unhide HT).1.size; simpa using this), fun e => by have := unhide HXhi k e; omega⟩)
    clear b1 he h hr
    go_wp2_with fail
    refine (unhide HAD).mono ?_
    rintro e w9 ⟨rfl, a9⟩
    go_wp2
    go_ret
    exact ⟨rfl, a9⟩
theorem long_any {N : Nat} (hW : WordN N) (k : Nat) (u : List UInt8) (w : World) (b : Nat) (X : Nat → Prop) (ps : List Prt) (he : WEnv w) (hk : k < 6) (h : LSt w b X ps) (hul : u.length ≤ 4096) (hu2 : 2 ≤ u.length) (hr : Room ps (u.length + 2)) (huN : u.length ≤ N) :
    Calls Tryd.prog 57 #[.int .i64 (k : Int), .string (BA u), (.func (Fn.func 32) #[.pointer (some ⟨b, 0, none⟩)] #[])] w fun e w' => LgEnd (lngL (rdC true) k u) k w b X ps e w' := by
  unfold lngL
  split
  · next h40 => exact long_run k u w b X ps he hk h hul hu2 hr h40
  · next h40 => exact long_brc hW k u w b X ps he hk h hul hu2 hr huN h40

end Go.Proofs.YtodcfgbcigjjfaaDoor

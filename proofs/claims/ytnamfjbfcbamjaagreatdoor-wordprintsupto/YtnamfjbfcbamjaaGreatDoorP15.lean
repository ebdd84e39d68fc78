/-
  Package word's long.
  Package word's thing.
-/
import Derived.Test.YtnamfjbfcbamjaaGreatDoorP14
import Derived.Deep.Cut
namespace Go.Proofs.YtnamfjbfcbamjaaGreatDoor
open Go.RowKit
def LgEnd (r : Bd) (k : Nat) (w : World) (b : Nat) (X : Nat → Prop) (ps : List Prt) (e : Ending) (w' : World) : Prop :=
  match r with
  | .ok p => e = .returned (.int .i64 0) ∧ Adds w b X (addP ps (setQ (allW k) p)) w'
  | .err x => e = .returned (.int .i64 x) ∧ x ≠ 0 ∧ GrownS w w' X
theorem run_quote (l : List UInt8) : ∃ kk t, runP l = .mk kk t false 0 false [] := by
  unfold runP
  split
  · exact ⟨_, _, rfl⟩
  · exact ⟨_, _, rfl⟩
theorem brc_quote {rd : Nat → List UInt8 → Rd} {w : Nat} {l : List UInt8} {p : Prt} (h : brcL rd w l = .ok p) : p.quote = false := by
  unfold brcL at h
  repeat' split at h
  all_goals first
    | (cases h; done)
    | (cases h; rfl)
set_option maxRecDepth 20000 in
set_option maxHeartbeats 4000000 in
theorem long_run (k : Nat) (u : List UInt8) (w : World) (b : Nat) (X : Nat → Prop) (ps : List Prt) (he : WEnv w) (hk : k < 6) (h : LSt w b X ps) (hul : u.length ≤ 4096) (hu2 : 2 ≤ u.length) (hr : Room ps (u.length + 2)) (h40 : u.head? = some 40) :
    Calls Tryz.prog 79 #[.int .i64 (k : Int), .string (BA u), (.func (Fn.func 41) #[.pointer (some ⟨b, 0, none⟩)] #[])] w fun e w' => LgEnd (.ok (runP (u.drop 1).dropLast)) k w b X ps e w' := by
  obtain ⟨n, hn⟩ : ∃ n, u.length = n + 1 := ⟨u.length - 1, by omega⟩
  have hwn : IntKind.i64.wrap ((u.length : Int) - 1) = (n : Int) := by rw [IntKind.wrap_i64]; omega
  have hn1 : (1 : Int) ≤ (n : Int) := by omega
  have hnb : (n : Int) ≤ 5000 := by omega
  have hn2 : (n : Int) ≤ (u.length : Int) := by omega
  have h2w := he.two
  have HX : Hid ((BA u).extract 1 n = BA (u.drop 1).dropLast) := hide (by have := ext_mid (BA u); rw [BA_size, hn, Nat.add_sub_cancel] at this; exact this)
  obtain ⟨m, hm⟩ : ∃ m, m = (u.drop 1).dropLast := ⟨_, rfl⟩
  have hml : m.length ≤ u.length - 2 := by rw [hm]; exact mid_len u
  rw [← hm] at HX
  have hb0 : Below w.heap.size w (w.alloc (.cells #[.int .i64 0, .string ⟨#[]⟩, .bool false, .int .i64 0, .bool false, .slice none 0 0] 37)) := (Below.refl _ w).alloc (Nat.le_refl _) _
  have HXhi := hide h.hi
  have hbw := h.lt
  match u, hu2 with
  | c0 :: u', _ =>
  have hsz0 : (0 : Int) < ((u'.length : Int) + 1) := by omega
  have hcc : c0 = 40 := by simpa using h40
  have hc40 : (((BA (c0 :: u'))[0]'(by simp)).toNat : Int) = 40 := by show (c0.toNat : Int) = 40; rw [hcc]; rfl
  have HRUN := hide (fun W => run_any (BA m) W (by simp only [BA_size, List.length_cons] at *; omega))
  simp only [BA_list] at HRUN
  obtain ⟨kk, t, hrun⟩ := run_quote m
  have htl := run_text m
  rw [← hm, hrun]
  rw [hrun] at HRUN htl
  have htl : t.length ≤ m.length := htl
  simp only [List.length_cons] at hul hml
  have HRUN' : Hid (∀ W, Calls Tryz.prog 92 #[.string (BA m)] W fun e w' => e = .returned (.agg #[.int .i64 kk, .string (BA t), .bool false, .int .i64 0, .bool false, .slice none 0 0]) ∧ Below W.heap.size W w') := HRUN
  clear hrun hm h40 hcc HRUN
  go_enter Tryz.func79, Tryz.ntmps79
  go_wp2_with fail
  rw [unhide HX]
  refine (unhide HRUN' _).mono ?_
  rintro e w1 ⟨rfl, b1⟩
  have HZ1 := hide (Blk.below (Blk.new w 37 #[.int .i64 0, .string ⟨#[]⟩, .bool false, .int .i64 0, .bool false, .slice none 0 0]) b1 (by simp))
  have HB1 := hide (hb0.trans (b1.mono (by simp)))
  have y0 : w1.cell? ⟨w.heap.size, 0, none⟩ = some (.int .i64 0) := (unhide HZ1).cell 0 rfl
  have y1 : w1.cell? ⟨w.heap.size, 1, none⟩ = some (.string ⟨#[]⟩) := (unhide HZ1).cell 1 rfl
  have y2 : w1.cell? ⟨w.heap.size, 2, none⟩ = some (.bool false) := (unhide HZ1).cell 2 rfl
  have y3 : w1.cell? ⟨w.heap.size, 3, none⟩ = some (.int .i64 0) := (unhide HZ1).cell 3 rfl
  have y4 : w1.cell? ⟨w.heap.size, 4, none⟩ = some (.bool false) := (unhide HZ1).cell 4 rfl
  have y5 : w1.cell? ⟨w.heap.size, 5, none⟩ = some (.slice none 0 0) := (unhide HZ1).cell 5 rfl
  have yf : ∀ j, w1.frozen? ⟨w.heap.size, j, none⟩ = false := fun j => (unhide HZ1).frozen j
  go_upto_region 9 with fail
  obtain ⟨w2, hw2⟩ : ∃ x, x = ((((((w1.setCell ⟨w.heap.size, 0, none⟩ (.int .i64 kk)).setCell ⟨w.heap.size, 1, none⟩ (.string (BA t))).setCell ⟨w.heap.size, 2, none⟩ (.bool false)).setCell ⟨w.heap.size, 3, none⟩ (.int .i64 0)).setCell ⟨w.heap.size, 4, none⟩ (.bool false)).setCell ⟨w.heap.size, 5, none⟩ (.slice none 0 0)) := ⟨_, rfl⟩
  have HT : Hid (GrownS w1 w2 (fun k => k = w.heap.size) ∧ Blk w2 w.heap.size 37 #[.int .i64 kk, .string (BA t), .bool false, .int .i64 0, .bool false, (.slice none 0 0)]) := hide (by rw [hw2]; exact ⟨T6_grown w1 w.heap.size 0 (.int .i64 kk) (.string (BA t)) (.bool false) (.int .i64 0) (.bool false) (.slice none 0 0), blk_T6 (unhide HZ1) _ _ _ _ _ _⟩)
  rw [← hw2]
  clear hw2 y0 y1 y2 y3 y4 y5 yf
  have HB2 : Hid (Below w.heap.size w w2) := hide ((unhide HB1).trans ((unhide HT).1.below (unhide HB1).size (fun k e => by omega)))
  have HBT : Hid (Below w.heap.size w (w2.setCell ⟨w.heap.size, 2, none⟩ (.bool (allW k)))) := hide ((unhide HB2).setCell (p := ⟨w.heap.size, 2, none⟩) (Nat.le_refl _) _)
  have r2 : w2.cell? ⟨0, k * 4 + 2, none⟩ = some (.bool (allW k)) := (he.below ((unhide HB2).mono (by omega))).r2 k hk
  have q0 : w2.cell? ⟨w.heap.size, 0, none⟩ = some (.int .i64 kk) := (unhide HT).2.cell 0 rfl
  have q1 : w2.cell? ⟨w.heap.size, 1, none⟩ = some (.string (BA t)) := (unhide HT).2.cell 1 rfl
  have q2 : w2.cell? ⟨w.heap.size, 2, none⟩ = some (.bool false) := (unhide HT).2.cell 2 rfl
  have q3 : w2.cell? ⟨w.heap.size, 3, none⟩ = some (.int .i64 0) := (unhide HT).2.cell 3 rfl
  have q4 : w2.cell? ⟨w.heap.size, 4, none⟩ = some (.bool false) := (unhide HT).2.cell 4 rfl
  have q5 : w2.cell? ⟨w.heap.size, 5, none⟩ = some (.slice none 0 0) := (unhide HT).2.cell 5 rfl
  have qf : w2.frozen? ⟨w.heap.size, 2, none⟩ = false := (unhide HT).2.frozen 2
  have HAD : Hid (Calls Tryz.prog 41 #[.pointer (some ⟨b, 0, none⟩), .agg #[.int .i64 kk, .string (BA t), .bool (allW k), .int .i64 0, .bool false, (.slice none 0 0)]] (w2.setCell ⟨w.heap.size, 2, none⟩ (.bool (allW k))) fun e w' => e = .returned (.tuple #[]) ∧ Adds w b X (addP ps (.mk kk t (allW k) 0 false [])) w') := hide (by
    refine (ladd_any _ b X (fun _ => False) ps _ (.mk kk t (allW k) 0 false []) (h.below (unhide HBT)) ⟨_, rfl, ?_⟩ ?_ (by have := hr.1; simp only [List.length_cons] at this; omega) (by have := hr.2; simp only [List.length_cons] at this; show tlen ps + List.length t ≤ _; omega)).mono (fun e w' ⟨h1, h3⟩ => ⟨h1, Adds.of_below (unhide HBT) h3⟩)
    · exact wat_nil _ _ _ _
    · exact fun _ h => h.elim)
  clear b1 he h hr
  go_wp2_with fail
  refine (unhide HAD).mono ?_
  rintro e w9 ⟨rfl, a9⟩
  go_wp2
  go_ret
  exact ⟨rfl, a9⟩
set_option maxRecDepth 20000 in
set_option maxHeartbeats 4000000 in
theorem long_brc {N : Nat} (hW : WordN N) (k : Nat) (u : List UInt8) (w : World) (b : Nat) (X : Nat → Prop) (ps : List Prt) (he : WEnv w) (hk : k < 6) (h : LSt w b X ps) (hul : u.length ≤ 4096) (hu2 : 2 ≤ u.length) (hr : Room ps (u.length + 2)) (huN : u.length ≤ N) (h40 : u.head? ≠ some 40) :
    Calls Tryz.prog 79 #[.int .i64 (k : Int), .string (BA u), (.func (Fn.func 41) #[.pointer (some ⟨b, 0, none⟩)] #[])] w fun e w' => LgEnd (brcL (rdC true) k (u.drop 1).dropLast) k w b X ps e w' := by
  obtain ⟨n, hn⟩ : ∃ n, u.length = n + 1 := ⟨u.length - 1, by omega⟩
  have hwn : IntKind.i64.wrap ((u.length : Int) - 1) = (n : Int) := by rw [IntKind.wrap_i64]; omega
  have hn1 : (1 : Int) ≤ (n : Int) := by omega
  have hnb : (n : Int) ≤ 5000 := by omega
  have hn2 : (n : Int) ≤ (u.length : Int) := by omega
  have h2w := he.two
  have HX : Hid ((BA u).extract 1 n = BA (u.drop 1).dropLast) := hide (by have := ext_mid (BA u); rw [BA_size, hn, Nat.add_sub_cancel] at this; exact this)
  obtain ⟨m, hm⟩ : ∃ m, m = (u.drop 1).dropLast := ⟨_, rfl⟩
  have hml : m.length ≤ u.length - 2 := by rw [hm]; exact mid_len u
  rw [← hm] at HX
  have hb0 : Below w.heap.size w (w.alloc (.cells #[.int .i64 0, .string ⟨#[]⟩, .bool false, .int .i64 0, .bool false, .slice none 0 0] 37)) := (Below.refl _ w).alloc (Nat.le_refl _) _
  have HXhi := hide h.hi
  have hbw := h.lt
  match u, hu2 with
  | c0 :: u', _ =>
  have hsz0 : (0 : Int) < ((u'.length : Int) + 1) := by omega
  have hc40 : ((((BA (c0 :: u'))[0]'(by simp)).toNat : Int) == 40) = false := by
    show ((c0.toNat : Int) == 40) = false
    rw [beq_eq_false_iff_ne]
    intro e
    exact h40 (by simp [UInt8.toNat_inj.1 (show c0.toNat = (40 : UInt8).toNat by show c0.toNat = 40; omega)])
  simp only [List.length_cons] at hul hml huN
  have HBR := hide (fun W (hE : WEnv W) => wbrace_any hW k m W hE hk (by omega) (by omega))
  rw [← hm]
  have hqt : ∀ p, brcL (rdC true) k m = .ok p → p.quote = false ∧ p.text.length ≤ m.length := fun p hp => ⟨brc_quote hp, brc_text hp⟩
  obtain ⟨R, hR⟩ : ∃ R, R = brcL (rdC true) k m := ⟨_, rfl⟩
  rw [← hR] at HBR hqt ⊢
  clear hR hm h40 hW
  cases R with
  | err x =>
    have HBR' : Hid (∀ W, WEnv W → Calls Tryz.prog 93 _ W fun e w' => e = .returned (.tuple #[.agg #[.int .i64 0, .string ⟨#[]⟩, .bool false, .int .i64 0, .bool false, .slice none 0 0], .int .i64 x]) ∧ x ≠ 0 ∧ Below W.heap.size W w') := HBR
    have HE0 := hide (he.below (hb0.mono (by omega)))
    clear HBR hqt
    go_enter Tryz.func79, Tryz.ntmps79
    go_wp2_with fail
    rw [unhide HX]
    refine (unhide HBR' _ (unhide HE0)).mono ?_
    rintro e w1 ⟨rfl, hx, b1⟩
    have hx1 : (x != 0) = true := by simpa using hx
    have HXX := hide hx
    have HZ1 := hide (Blk.below (Blk.new w 37 #[.int .i64 0, .string ⟨#[]⟩, .bool false, .int .i64 0, .bool false, .slice none 0 0]) b1 (by simp))
    have HB1 := hide (hb0.trans (b1.mono (by simp)))
    have y0 : w1.cell? ⟨w.heap.size, 0, none⟩ = some (.int .i64 0) := (unhide HZ1).cell 0 rfl
    have y1 : w1.cell? ⟨w.heap.size, 1, none⟩ = some (.string ⟨#[]⟩) := (unhide HZ1).cell 1 rfl
    have y2 : w1.cell? ⟨w.heap.size, 2, none⟩ = some (.bool false) := (unhide HZ1).cell 2 rfl
    have y3 : w1.cell? ⟨w.heap.size, 3, none⟩ = some (.int .i64 0) := (unhide HZ1).cell 3 rfl
    have y4 : w1.cell? ⟨w.heap.size, 4, none⟩ = some (.bool false) := (unhide HZ1).cell 4 rfl
    have y5 : w1.cell? ⟨w.heap.size, 5, none⟩ = some (.slice none 0 0) := (unhide HZ1).cell 5 rfl
    have yf : ∀ j, w1.frozen? ⟨w.heap.size, j, none⟩ = false := fun j => (unhide HZ1).frozen j
    clear b1 hx
    go_wp2
    go_ret
    exact ⟨rfl, unhide HXX, grownS_of_below (((unhide HB1).trans ((T6_grown w1 w.heap.size 0 (.int .i64 0) (.string ⟨#[]⟩) (.bool false) (.int .i64 0) (.bool false) (.slice none 0 0)).below (unhide HB1).size (fun k e => by omega))))⟩
  | ok p =>
    have HBR' : Hid (∀ W, WEnv W → Calls Tryz.prog 93 _ W fun e w' => ∃ v, e = .returned (.tuple #[.agg #[.int .i64 p.kind, .string (BA p.text), .bool p.quote, .int .i64 p.op, .bool p.colon, v], .int .i64 0]) ∧ Below W.heap.size W w' ∧ WAt w' (fun k => W.heap.size ≤ k ∧ k < w'.heap.size) v p.sub) := HBR
    obtain ⟨hq, htl⟩ := hqt p rfl
    clear HBR hqt
    obtain ⟨kk, t, qq, oo, cc, ss⟩ := p
    simp only [Prt.kind, Prt.text, Prt.quote, Prt.op, Prt.colon] at HBR'
    have hq : qq = false := hq
    subst hq
    have htl : t.length ≤ m.length := htl
    have HE0 := hide (he.below (hb0.mono (by omega)))
    go_enter Tryz.func79, Tryz.ntmps79
    go_wp2_with fail
    rw [unhide HX]
    refine (unhide HBR' _ (unhide HE0)).mono ?_
    rintro e w1 ⟨v, rfl, b1, hv⟩
    have hv : WAt w1 (fun k => (w.alloc (.cells #[.int .i64 0, .string ⟨#[]⟩, .bool false, .int .i64 0, .bool false, .slice none 0 0] 37)).heap.size ≤ k ∧ k < w1.heap.size) v ss := hv
    obtain ⟨va, vc, rfl, _⟩ := hv.len
    have HZ1 := hide (Blk.below (Blk.new w 37 #[.int .i64 0, .string ⟨#[]⟩, .bool false, .int .i64 0, .bool false, .slice none 0 0]) b1 (by simp))
    have HB1 := hide (hb0.trans (b1.mono (by simp)))
    have y0 : w1.cell? ⟨w.heap.size, 0, none⟩ = some (.int .i64 0) := (unhide HZ1).cell 0 rfl
    have y1 : w1.cell? ⟨w.heap.size, 1, none⟩ = some (.string ⟨#[]⟩) := (unhide HZ1).cell 1 rfl
    have y2 : w1.cell? ⟨w.heap.size, 2, none⟩ = some (.bool false) := (unhide HZ1).cell 2 rfl
    have y3 : w1.cell? ⟨w.heap.size, 3, none⟩ = some (.int .i64 0) := (unhide HZ1).cell 3 rfl
    have y4 : w1.cell? ⟨w.heap.size, 4, none⟩ = some (.bool false) := (unhide HZ1).cell 4 rfl
    have y5 : w1.cell? ⟨w.heap.size, 5, none⟩ = some (.slice none 0 0) := (unhide HZ1).cell 5 rfl
    have yf : ∀ j, w1.frozen? ⟨w.heap.size, j, none⟩ = false := fun j => (unhide HZ1).frozen j
    go_upto_region 9 with fail
    obtain ⟨w2, hw2⟩ : ∃ x, x = ((((((w1.setCell ⟨w.heap.size, 0, none⟩ (.int .i64 kk)).setCell ⟨w.heap.size, 1, none⟩ (.string (BA t))).setCell ⟨w.heap.size, 2, none⟩ (.bool false)).setCell ⟨w.heap.size, 3, none⟩ (.int .i64 oo)).setCell ⟨w.heap.size, 4, none⟩ (.bool cc)).setCell ⟨w.heap.size, 5, none⟩ (.slice va ss.length vc)) := ⟨_, rfl⟩
    have HT : Hid (GrownS w1 w2 (fun k => k = w.heap.size) ∧ Blk w2 w.heap.size 37 #[.int .i64 kk, .string (BA t), .bool false, .int .i64 oo, .bool cc, (.slice va ss.length vc)]) := hide (by rw [hw2]; exact ⟨T6_grown w1 w.heap.size 0 (.int .i64 kk) (.string (BA t)) (.bool false) (.int .i64 oo) (.bool cc) (.slice va ss.length vc), blk_T6 (unhide HZ1) _ _ _ _ _ _⟩)
    rw [← hw2]
    clear hw2 y0 y1 y2 y3 y4 y5 yf
    have HB2 : Hid (Below w.heap.size w w2) := hide ((unhide HB1).trans ((unhide HT).1.below (unhide HB1).size (fun k e => by omega)))
    have HBT : Hid (Below w.heap.size w (w2.setCell ⟨w.heap.size, 2, none⟩ (.bool (allW k)))) := hide ((unhide HB2).setCell (p := ⟨w.heap.size, 2, none⟩) (Nat.le_refl _) _)
    have r2 : w2.cell? ⟨0, k * 4 + 2, none⟩ = some (.bool (allW k)) := (he.below ((unhide HB2).mono (by omega))).r2 k hk
    have q0 : w2.cell? ⟨w.heap.size, 0, none⟩ = some (.int .i64 kk) := (unhide HT).2.cell 0 rfl
    have q1 : w2.cell? ⟨w.heap.size, 1, none⟩ = some (.string (BA t)) := (unhide HT).2.cell 1 rfl
    have q2 : w2.cell? ⟨w.heap.size, 2, none⟩ = some (.bool false) := (unhide HT).2.cell 2 rfl
    have q3 : w2.cell? ⟨w.heap.size, 3, none⟩ = some (.int .i64 oo) := (unhide HT).2.cell 3 rfl
    have q4 : w2.cell? ⟨w.heap.size, 4, none⟩ = some (.bool cc) := (unhide HT).2.cell 4 rfl
    have q5 : w2.cell? ⟨w.heap.size, 5, none⟩ = some (.slice va ss.length vc) := (unhide HT).2.cell 5 rfl
    have qf : w2.frozen? ⟨w.heap.size, 2, none⟩ = false := (unhide HT).2.frozen 2
    have HAD : Hid (Calls Tryz.prog 41 #[.pointer (some ⟨b, 0, none⟩), .agg #[.int .i64 kk, .string (BA t), .bool (allW k), .int .i64 oo, .bool cc, (.slice va ss.length vc)]] (w2.setCell ⟨w.heap.size, 2, none⟩ (.bool (allW k))) fun e w' => e = .returned (.tuple #[]) ∧ Adds w b X (addP ps (.mk kk t (allW k) oo cc ss)) w') := hide (by
      refine (ladd_any _ b X (fun k => w.heap.size + 1 ≤ k ∧ k < w1.heap.size) ps _ (.mk kk t (allW k) oo cc ss) (h.below (unhide HBT)) ⟨_, rfl, ?_⟩ ?_ (by have := hr.1; simp only [List.length_cons] at this; omega) (by have := hr.2; simp only [List.length_cons] at this; show tlen ps + List.length t ≤ _; omega)).mono (fun e w' ⟨h1, h3⟩ => ⟨h1, Adds.of_below (unhide HBT) h3⟩)
      · refine (hv.kept (fun k hk => ?_) (fun k hk => ⟨by simpa using hk.1, hk.2⟩))
        have hk1 : w.heap.size + 1 ≤ k := by simpa using hk.1
        rw [Below.heap_setCell _ _ _ k (by show k ≠ w.heap.size; omega)]
        exact (unhide HT).1.block k hk.2 (by omega)
      · exact fun k hk => ⟨by omega, Nat.lt_of_lt_of_le hk.2 (by have := (unhide HT).1.size; simpa using this), fun e => by have := unhide HXhi k e; omega⟩)
    clear b1 he h hr
    go_wp2_with fail
    refine (unhide HAD).mono ?_
    rintro e w9 ⟨rfl, a9⟩
    go_wp2
    go_ret
    exact ⟨rfl, a9⟩
theorem long_any {N : Nat} (hW : WordN N) (k : Nat) (u : List UInt8) (w : World) (b : Nat) (X : Nat → Prop) (ps : List Prt) (he : WEnv w) (hk : k < 6) (h : LSt w b X ps) (hul : u.length ≤ 4096) (hu2 : 2 ≤ u.length) (hr : Room ps (u.length + 2)) (huN : u.length ≤ N) :
    Calls Tryz.prog 79 #[.int .i64 (k : Int), .string (BA u), (.func (Fn.func 41) #[.pointer (some ⟨b, 0, none⟩)] #[])] w fun e w' => LgEnd (lngL (rdC true) k u) k w b X ps e w' := by
  unfold lngL
  split
  · next h40 => exact long_run k u w b X ps he hk h hul hu2 hr h40
  · next h40 => exact long_brc hW k u w b X ps he hk h hul hu2 hr huN h40
end Go.Proofs.YtnamfjbfcbamjaaGreatDoor
namespace Go.Proofs.YtnamfjbfcbamjaaGreatDoor
open Go.RowKit
def dqTh (rest : List UInt8) : Rd → Th
  | .err e => .err e
  | .ok ps => .ok (if ps.isEmpty then [litP [] true] else ps) rest
def lgTh (k : Nat) (rest : List UInt8) : Bd → Th
  | .err e => .err e
  | .ok p => .ok [setQ (allW k) p] rest
def WThEnd (r : Th) (n : Nat) (w : World) (b : Nat) (X : Nat → Prop) (ps : List Prt) (e : Ending) (w' : World) : Prop :=
  match r with
  | .ok evs rest => e = .returned (.tuple #[.int .i64 ((n + 1 - rest.length : Nat) : Int), .int .i64 0]) ∧ Adds w b X (evs.foldl addP ps) w'
  | .err x => ∃ z : Int, e = .returned (.tuple #[.int .i64 z, .int .i64 x]) ∧ x ≠ 0 ∧ GrownS w w' X
theorem ret_th {a b c d : Int} (h : a = b) (g : c = d) : Ending.returned (.tuple #[.int .i64 a, .int .i64 c]) = .returned (.tuple #[.int .i64 b, .int .i64 d]) := by rw [h, g]
theorem thi_split {F : Nat} {c : UInt8} {r rest : List UInt8} {wh d : Nat} (h : thg (F + 3) (c :: r) wh d = .ok rest) : ∃ u, r = u ++ rest := by
  have h1 := thg_rest h
  obtain ⟨t, ht⟩ := thg_suf h
  cases t with
  | nil =>
    have := congrArg List.length ht
    simp at this
    omega
  | cons x t => exact ⟨t, by simp at ht; exact ht.2⟩
theorem ext1 (c : UInt8) (u rest : List UInt8) : (BA (c :: (u ++ rest))).extract 1 (u.length + 1) = BA u := by
  have := extract_take (BA (c :: (u ++ rest))) 1 u.length
  rw [show 1 + u.length = u.length + 1 by omega] at this
  rw [this]
  simp
theorem ext1d (c : UInt8) (u rest : List UInt8) (h : u ≠ []) : (BA (c :: (u ++ rest))).extract 1 u.length = BA u.dropLast := by
  obtain ⟨n, hn⟩ : ∃ n, u.length = n + 1 := ⟨u.length - 1, by have := List.length_pos_iff.2 h; omega⟩
  have := extract_take (BA (c :: (u ++ rest))) 1 n
  rw [show 1 + n = u.length by omega] at this
  rw [this, List.dropLast_eq_take, hn]
  simp only [BA_list, List.drop_succ_cons, List.drop_zero, Nat.add_sub_cancel]
  rw [List.take_append_of_le_length (by omega)]
theorem ext1e (c : UInt8) (r : List UInt8) : (BA (c :: r)).extract 1 (r.length + 1) = BA r := by
  have := extract_end (BA (c :: r)) 1
  simpa using this
theorem ext01 (c : UInt8) (r : List UInt8) : (BA (c :: r)).extract 0 1 = BA [c] := by
  have := extract_take (BA (c :: r)) 0 1
  simpa using this
set_option maxRecDepth 20000 in
set_option maxHeartbeats 4000000 in
theorem th_92 (k : Nat) (c : UInt8) (u rest : List UInt8) (w : World) (b : Nat) (X : Nat → Prop) (ps : List Prt) (he : WEnv w) (hk : k < 6) (hrl : (u ++ rest).length + 1 ≤ 4096) (h : LSt w b X ps) (hr : Room ps (2 * ((u ++ rest).length + 1) + 4)) (HPC : Hid (∀ W, WEnv W → Calls Tryz.prog 74 #[.int .i64 (k : Int), .string (BA (c :: (u ++ rest)))] W fun e w' => e = .returned (.tuple #[.int .i64 ((u.length : Int) + 1), .int .i64 0]) ∧ Below W.heap.size W w')) (hc92 : c = 92) (hu1 : u.length ≤ 1) :
    Calls Tryz.prog 61 #[.int .i64 (k : Int), .string (BA (c :: (u ++ rest))), (.func (Fn.func 41) #[.pointer (some ⟨b, 0, none⟩)] #[])] w fun e w' => WThEnd (.ok (pairL k u) rest) (u ++ rest).length w b X ps e w' := by
  have h2w := he.two
  have HE := hide he
  have HH := hide h
  have HR := hide hr
  have hul : u.length ≤ 4096 := by simp at hrl; omega
  have hub : (u.length : Int) ≤ 4096 := by omega
  have hun : (u.length : Int) + 1 ≤ ((u.length : Int) + (rest.length : Int)) + 1 := by omega
  have hN0 : ((u ++ rest).length + 1 - rest.length : Nat) = u.length + 1 := by simp; omega
  obtain ⟨NN, hNN⟩ : ∃ x, x = (u ++ rest).length := ⟨_, rfl⟩
  rw [← hNN]
  have HN : Hid (((NN + 1 - rest.length : Nat) : Int) = (u.length : Int) + 1) := hide (by rw [hNN, hN0]; rfl)
  clear hNN
  have hsz : (0 : Int) < ((u ++ rest).length : Int) + 1 := by omega
  obtain ⟨cc, hcc⟩ : ∃ x : Int, x = (c.toNat : Int) := ⟨_, rfl⟩
  have hc0 : (((BA (c :: (u ++ rest)))[0]'(by simp)).toNat : Int) = cc := hcc.symm
  have hcr := byte_range c
  have hb92 : (cc == 92) = true := by rw [hcc, hc92]; rfl
  have HX := hide (ext1 c u rest)
  clear he h hr hcc hN0 hcr hc92
  go_enter Tryz.func61, Tryz.ntmps61
  go_wp2_with fail
  refine (unhide HPC _ (unhide HE)).mono ?_
  rintro e w1 ⟨rfl, b1⟩
  have HB1 := hide b1
  have HE1 := hide ((unhide HE).below (b1.mono (by omega)))
  have HH1 := hide ((unhide HH).below b1)
  have hw1 : 2 < w1.heap.size := by have := b1.size; omega
  clear b1 HPC
  go_wp2_with fail
  rw [unhide HX]
  refine (pair_any k u w1 b X ps (unhide HE1) hk hu1 (unhide HH1) ⟨by have := (unhide HR).1; omega, by have := (unhide HR).2; omega⟩).mono ?_
  rintro e w2 ⟨rfl, a2⟩
  go_wp2
  go_ret2
  refine ⟨ret_th (unhide HN).symm rfl, ?_⟩
  exact a2.of_below (unhide HB1)
set_option maxRecDepth 20000 in
set_option maxHeartbeats 4000000 in
theorem th_39 (k : Nat) (c : UInt8) (u rest : List UInt8) (w : World) (b : Nat) (X : Nat → Prop) (ps : List Prt) (he : WEnv w) (hrl : (u ++ rest).length + 1 ≤ 4096) (h : LSt w b X ps) (hr : Room ps (2 * ((u ++ rest).length + 1) + 4)) (HPC : Hid (∀ W, WEnv W → Calls Tryz.prog 74 #[.int .i64 (k : Int), .string (BA (c :: (u ++ rest)))] W fun e w' => e = .returned (.tuple #[.int .i64 ((u.length : Int) + 1), .int .i64 0]) ∧ Below W.heap.size W w')) (hc39 : c = 39) (hu : u ≠ []) :
    Calls Tryz.prog 61 #[.int .i64 (k : Int), .string (BA (c :: (u ++ rest))), (.func (Fn.func 41) #[.pointer (some ⟨b, 0, none⟩)] #[])] w fun e w' => WThEnd (.ok [litP u.dropLast true] rest) (u ++ rest).length w b X ps e w' := by
  have h2w := he.two
  have HE := hide he
  have HH := hide h
  have HR := hide hr
  have hul : u.length ≤ 4096 := by simp at hrl; omega
  have hub : (u.length : Int) ≤ 4096 := by omega
  have hun : (u.length : Int) + 1 ≤ ((u.length : Int) + (rest.length : Int)) + 1 := by omega
  have hN0 : ((u ++ rest).length + 1 - rest.length : Nat) = u.length + 1 := by simp; omega
  obtain ⟨NN, hNN⟩ : ∃ x, x = (u ++ rest).length := ⟨_, rfl⟩
  rw [← hNN]
  have HN : Hid (((NN + 1 - rest.length : Nat) : Int) = (u.length : Int) + 1) := hide (by rw [hNN, hN0]; rfl)
  clear hNN
  have hsz : (0 : Int) < ((u ++ rest).length : Int) + 1 := by omega
  obtain ⟨cc, hcc⟩ : ∃ x : Int, x = (c.toNat : Int) := ⟨_, rfl⟩
  have hc0 : (((BA (c :: (u ++ rest)))[0]'(by simp)).toNat : Int) = cc := hcc.symm
  have hcr := byte_range c
  have hb92 : (cc == 92) = false := by rw [hcc, hc39]; rfl
  have hb39 : (cc == 39) = true := by rw [hcc, hc39]; rfl
  have hal : ((u.length : Int) + 1 == 1) = false := by rw [beq_eq_false_iff_ne]; have := List.length_pos_iff.2 hu; omega
  have hwr : IntKind.i64.wrap ((u.length : Int) + 1 - 1) = (u.length : Int) := by rw [IntKind.wrap_i64]; omega
  have hu1 : (1 : Int) ≤ (u.length : Int) := by have := List.length_pos_iff.2 hu; omega
  have hu2 : (u.length : Int) ≤ ((u.length : Int) + (rest.length : Int)) + 1 := by omega
  have HX := hide (ext1d c u rest hu)
  clear he h hr hcc hN0 hcr hc39 hu
  go_enter Tryz.func61, Tryz.ntmps61
  go_wp2_with fail
  refine (unhide HPC _ (unhide HE)).mono ?_
  rintro e w1 ⟨rfl, b1⟩
  have HB1 := hide b1
  have HE1 := hide ((unhide HE).below (b1.mono (by omega)))
  have HH1 := hide ((unhide HH).below b1)
  have hw1 : 2 < w1.heap.size := by have := b1.size; omega
  clear b1 HPC
  go_wp2_with fail
  rw [unhide HX]
  refine (lit_any _ _ _).mono ?_
  rintro e w2 ⟨rfl, b2⟩
  have HB2 := hide b2
  clear b2
  go_wp2_with fail
  refine (add_plain _ b X ps 1 (BA u.dropLast) true 0 false ((unhide HH1).below (unhide HB2)) ⟨by have := (unhide HR).1; simp at *; omega, by have := (unhide HR).2; simp at *; omega⟩).mono ?_
  rintro e w3 ⟨rfl, a3⟩
  go_wp2
  go_ret2
  refine ⟨ret_th (unhide HN).symm rfl, ?_⟩
  exact (a3.of_below (unhide HB2)).of_below (unhide HB1)
set_option maxRecDepth 20000 in
set_option maxHeartbeats 4000000 in
theorem th_34 {N : Nat} (hW : WordN N) (k : Nat) (c : UInt8) (u rest : List UInt8) (w : World) (b : Nat) (X : Nat → Prop) (ps : List Prt) (he : WEnv w) (hrN : (u ++ rest).length ≤ N) (hrl : (u ++ rest).length + 1 ≤ 4096) (h : LSt w b X ps) (hr : Room ps (2 * ((u ++ rest).length + 1) + 4)) (HPC : Hid (∀ W, WEnv W → Calls Tryz.prog 74 #[.int .i64 (k : Int), .string (BA (c :: (u ++ rest)))] W fun e w' => e = .returned (.tuple #[.int .i64 ((u.length : Int) + 1), .int .i64 0]) ∧ Below W.heap.size W w')) (hc34 : c = 34) (hu : u ≠ []) :
    Calls Tryz.prog 61 #[.int .i64 (k : Int), .string (BA (c :: (u ++ rest))), (.func (Fn.func 41) #[.pointer (some ⟨b, 0, none⟩)] #[])] w fun e w' => WThEnd (dqTh rest (rdC true 2 u.dropLast).word) (u ++ rest).length w b X ps e w' := by
  have h2w := he.two
  have HE := hide he
  have HH := hide h
  have HR := hide hr
  have hul : u.length ≤ 4096 := by simp at hrl; omega
  have hub : (u.length : Int) ≤ 4096 := by omega
  have hun : (u.length : Int) + 1 ≤ ((u.length : Int) + (rest.length : Int)) + 1 := by omega
  have hN0 : ((u ++ rest).length + 1 - rest.length : Nat) = u.length + 1 := by simp; omega
  obtain ⟨NN, hNN⟩ : ∃ x, x = (u ++ rest).length := ⟨_, rfl⟩
  rw [← hNN]
  have HN : Hid (((NN + 1 - rest.length : Nat) : Int) = (u.length : Int) + 1) := hide (by rw [hNN, hN0]; rfl)
  clear hNN
  have hsz : (0 : Int) < ((u ++ rest).length : Int) + 1 := by omega
  obtain ⟨cc, hcc⟩ : ∃ x : Int, x = (c.toNat : Int) := ⟨_, rfl⟩
  have hc0 : (((BA (c :: (u ++ rest)))[0]'(by simp)).toNat : Int) = cc := hcc.symm
  have hcr := byte_range c
  have hb92 : (cc == 92) = false := by rw [hcc, hc34]; rfl
  have hb39 : (cc == 39) = false := by rw [hcc, hc34]; rfl
  have hb34 : (cc == 34) = true := by rw [hcc, hc34]; rfl
  have hal : ((u.length : Int) + 1 == 1) = false := by rw [beq_eq_false_iff_ne]; have := List.length_pos_iff.2 hu; omega
  have hwr : IntKind.i64.wrap ((u.length : Int) + 1 - 1) = (u.length : Int) := by rw [IntKind.wrap_i64]; omega
  have hu1 : (1 : Int) ≤ (u.length : Int) := by have := List.length_pos_iff.2 hu; omega
  have hu2 : (u.length : Int) ≤ ((u.length : Int) + (rest.length : Int)) + 1 := by omega
  have HX := hide (ext1d c u rest hu)
  have HDQ : Hid (∀ W, WEnv W → LSt W b X ps → Calls Tryz.prog 77 #[.string (BA u.dropLast), (.func (Fn.func 41) #[.pointer (some ⟨b, 0, none⟩)] #[])] W fun e w' => DqEnd (rdC true 2 u.dropLast).word W b X ps e w') := hide (fun W hE hL => dquotes_any hW u.dropLast W b X ps hE (by simp at hrN ⊢; omega) (by simp; omega) hL ⟨by have := hr.1; simp at this ⊢; omega, by have := hr.2; simp at this ⊢; omega⟩)
  obtain ⟨R, hR⟩ : ∃ R, R = (rdC true 2 u.dropLast).word := ⟨_, rfl⟩
  rw [← hR] at HDQ ⊢
  clear hR
  obtain ⟨RES, hRES⟩ : ∃ x : Th, x = dqTh rest R := ⟨_, rfl⟩
  rw [← hRES]
  have HRES := hide hRES
  clear hRES
  clear he h hr hW hrN hcc hN0 hcr hc34 hu
  go_enter Tryz.func61, Tryz.ntmps61
  go_wp2_with fail
  refine (unhide HPC _ (unhide HE)).mono ?_
  rintro e w1 ⟨rfl, b1⟩
  have HB1 := hide b1
  have HE1 := hide ((unhide HE).below (b1.mono (by omega)))
  have HH1 := hide ((unhide HH).below b1)
  have hw1 : 2 < w1.heap.size := by have := b1.size; omega
  clear b1 HPC
  go_wp2_with fail
  rw [unhide HX]
  refine (unhide HDQ _ (unhide HE1) (unhide HH1)).mono ?_
  clear HDQ
  cases R with
  | err x =>
    rintro e w2 ⟨rfl, hx, g2⟩
    have HX2 := hide hx
    have HG2 := hide g2
    clear hx g2
    go_wp2
    go_ret2
    rw [unhide HRES]
    exact ⟨_, rfl, unhide HX2, (grownS_of_below (unhide HB1)).trans (unhide HG2)⟩
  | ok qs =>
    rintro e w2 ⟨rfl, a2⟩
    have HA2 := hide a2
    clear a2
    go_wp2
    go_ret2
    rw [unhide HRES]
    exact ⟨ret_th (unhide HN).symm rfl, (unhide HA2).of_below (unhide HB1)⟩
set_option maxRecDepth 20000 in
set_option maxHeartbeats 4000000 in
theorem th_36s (k : Nat) (rest : List UInt8) (w : World) (b : Nat) (X : Nat → Prop) (ps : List Prt) (he : WEnv w) (hk : k < 6) (hrl : rest.length + 1 ≤ 4096) (h : LSt w b X ps) (hr : Room ps (2 * (rest.length + 1) + 4)) (HPC : Hid (∀ W, WEnv W → Calls Tryz.prog 74 #[.int .i64 (k : Int), .string (BA (36 :: rest))] W fun e w' => e = .returned (.tuple #[.int .i64 1, .int .i64 0]) ∧ Below W.heap.size W w')) :
    Calls Tryz.prog 61 #[.int .i64 (k : Int), .string (BA (36 :: rest)), (.func (Fn.func 41) #[.pointer (some ⟨b, 0, none⟩)] #[])] w fun e w' => WThEnd (if nmdN rest = 0 then .ok [litP [36] true] rest else .ok [.mk 2 (rest.take (nmdN rest)) (allW k) 0 false []] (rest.drop (nmdN rest))) rest.length w b X ps e w' := by
  have h2w := he.two
  have HE := hide he
  have HH := hide h
  have HR := hide hr
  have hle := nmd_le rest
  have hc0 : (((BA (36 :: rest))[0]'(by simp)).toNat : Int) = 36 := rfl
  have hsz : (0 : Int) < (rest.length : Int) + 1 := by omega
  have hsz1 : (1 : Int) ≤ (rest.length : Int) + 1 := by omega
  have HX := hide (ext1e 36 rest)
  obtain ⟨n, hn⟩ : ∃ n, n = nmdN rest := ⟨_, rfl⟩
  have hnb : (n : Int) ≤ 4096 := by omega
  have HSH := hide (fun W hE hL => short_any k rest W b X ps hE hk (by omega) hL ⟨by have := hr.1; omega, by have := hr.2; omega⟩)
  rw [← hn] at HSH hle ⊢
  obtain ⟨RES, hRES⟩ : ∃ x : Th, x = (if n = 0 then .ok [litP [36] true] rest else .ok [.mk 2 (rest.take n) (allW k) 0 false []] (rest.drop n)) := ⟨_, rfl⟩
  rw [← hRES]
  have HRES := hide hRES
  clear hRES
  obtain ⟨ADD, hADD⟩ : ∃ x : Prt, x = (if n = 0 then litP [36] true else .mk 2 (rest.take n) (allW k) 0 false []) := ⟨_, rfl⟩
  rw [← hADD] at HSH
  have HADD := hide hADD
  clear he h hr hn hADD
  go_enter Tryz.func61, Tryz.ntmps61
  go_wp2_with fail
  refine (unhide HPC _ (unhide HE)).mono ?_
  rintro e w1 ⟨rfl, b1⟩
  have HB1 := hide b1
  have HE1 := hide ((unhide HE).below (b1.mono (by omega)))
  have HH1 := hide ((unhide HH).below b1)
  clear b1 HPC
  go_wp2_with fail
  rw [unhide HX]
  refine (unhide HSH _ (unhide HE1) (unhide HH1)).mono ?_
  rintro e w2 ⟨rfl, a2⟩
  have HA2 := hide (a2.of_below (unhide HB1))
  clear a2
  go_wp2
  go_ret2
  rw [unhide HRES]
  have ha := unhide HA2
  rw [unhide HADD] at ha
  by_cases h0 : n = 0
  · rw [if_pos h0] at ha ⊢
    exact ⟨ret_th (by omega) rfl, ha⟩
  · rw [if_neg h0] at ha ⊢
    exact ⟨ret_th (by simp; omega) rfl, ha⟩
set_option maxRecDepth 20000 in
set_option maxHeartbeats 4000000 in
theorem th_36 {N : Nat} (hW : WordN N) (k : Nat) (c : UInt8) (u rest : List UInt8) (w : World) (b : Nat) (X : Nat → Prop) (ps : List Prt) (he : WEnv w) (hk : k < 6) (hrN : (u ++ rest).length ≤ N) (hrl : (u ++ rest).length + 1 ≤ 4096) (h : LSt w b X ps) (hr : Room ps (2 * ((u ++ rest).length + 1) + 4)) (HPC : Hid (∀ W, WEnv W → Calls Tryz.prog 74 #[.int .i64 (k : Int), .string (BA (c :: (u ++ rest)))] W fun e w' => e = .returned (.tuple #[.int .i64 ((u.length : Int) + 1), .int .i64 0]) ∧ Below W.heap.size W w')) (hc36 : c = 36) (hu : u ≠ []) (hu2 : 2 ≤ u.length) :
    Calls Tryz.prog 61 #[.int .i64 (k : Int), .string (BA (c :: (u ++ rest))), (.func (Fn.func 41) #[.pointer (some ⟨b, 0, none⟩)] #[])] w fun e w' => WThEnd (lgTh k rest (lngL (rdC true) k u)) (u ++ rest).length w b X ps e w' := by
  have h2w := he.two
  have HE := hide he
  have HH := hide h
  have HR := hide hr
  have hul : u.length ≤ 4096 := by simp at hrl; omega
  have hub : (u.length : Int) ≤ 4096 := by omega
  have hun : (u.length : Int) + 1 ≤ ((u.length : Int) + (rest.length : Int)) + 1 := by omega
  have hN0 : ((u ++ rest).length + 1 - rest.length : Nat) = u.length + 1 := by simp; omega
  obtain ⟨NN, hNN⟩ : ∃ x, x = (u ++ rest).length := ⟨_, rfl⟩
  rw [← hNN]
  have HN : Hid (((NN + 1 - rest.length : Nat) : Int) = (u.length : Int) + 1) := hide (by rw [hNN, hN0]; rfl)
  clear hNN
  have hsz : (0 : Int) < ((u ++ rest).length : Int) + 1 := by omega
  obtain ⟨cc, hcc⟩ : ∃ x : Int, x = (c.toNat : Int) := ⟨_, rfl⟩
  have hc0 : (((BA (c :: (u ++ rest)))[0]'(by simp)).toNat : Int) = cc := hcc.symm
  have hcr := byte_range c
  have hb92 : (cc == 92) = false := by rw [hcc, hc36]; rfl
  have hb39 : (cc == 39) = false := by rw [hcc, hc36]; rfl
  have hb34 : (cc == 34) = false := by rw [hcc, hc36]; rfl
  have hb36 : (cc == 36) = true := by rw [hcc, hc36]; rfl
  have hal : ((u.length : Int) + 1 == 1) = false := by rw [beq_eq_false_iff_ne]; have := List.length_pos_iff.2 hu; omega
  have HX := hide (ext1 c u rest)
  have HLG : Hid (∀ W, WEnv W → LSt W b X ps → Calls Tryz.prog 79 #[.int .i64 (k : Int), .string (BA u), (.func (Fn.func 41) #[.pointer (some ⟨b, 0, none⟩)] #[])] W fun e w' => LgEnd (lngL (rdC true) k u) k W b X ps e w') := hide (fun W hE hL => long_any hW k u W b X ps hE hk hL hul hu2 ⟨by have := hr.1; simp at this ⊢; omega, by have := hr.2; simp at this ⊢; omega⟩ (by simp at hrN; omega))
  obtain ⟨R, hR⟩ : ∃ R, R = lngL (rdC true) k u := ⟨_, rfl⟩
  rw [← hR] at HLG ⊢
  clear hR
  obtain ⟨RES, hRES⟩ : ∃ x : Th, x = lgTh k rest R := ⟨_, rfl⟩
  rw [← hRES]
  have HRES := hide hRES
  clear hRES
  clear he h hr hW hrN hcc hN0 hcr hc36 hu
  go_enter Tryz.func61, Tryz.ntmps61
  go_wp2_with fail
  refine (unhide HPC _ (unhide HE)).mono ?_
  rintro e w1 ⟨rfl, b1⟩
  have HB1 := hide b1
  have HE1 := hide ((unhide HE).below (b1.mono (by omega)))
  have HH1 := hide ((unhide HH).below b1)
  have hw1 : 2 < w1.heap.size := by have := b1.size; omega
  clear b1 HPC
  go_wp2_with fail
  rw [unhide HX]
  refine (unhide HLG _ (unhide HE1) (unhide HH1)).mono ?_
  clear HLG
  cases R with
  | err x =>
    rintro e w2 ⟨rfl, hx, g2⟩
    have HX2 := hide hx
    have HG2 := hide g2
    clear hx g2
    go_wp2
    go_ret2
    rw [unhide HRES]
    exact ⟨_, rfl, unhide HX2, (grownS_of_below (unhide HB1)).trans (unhide HG2)⟩
  | ok p =>
    rintro e w2 ⟨rfl, a2⟩
    have HA2 := hide a2
    clear a2
    go_wp2
    go_ret2
    rw [unhide HRES]
    exact ⟨ret_th (unhide HN).symm rfl, (unhide HA2).of_below (unhide HB1)⟩
set_option maxRecDepth 20000 in
set_option maxHeartbeats 4000000 in
theorem th_meta {N : Nat} (k : Nat) (c : UInt8) (u rest : List UInt8) (w : World) (b : Nat) (X : Nat → Prop) (ps : List Prt) (he : WEnv w) (hk : k < 6) (hrN : (u ++ rest).length ≤ N) (hrl : (u ++ rest).length + 1 ≤ 4096) (h : LSt w b X ps) (hr : Room ps (2 * ((u ++ rest).length + 1) + 4)) (HPC : Hid (∀ W, WEnv W → Calls Tryz.prog 74 #[.int .i64 (k : Int), .string (BA (c :: (u ++ rest)))] W fun e w' => e = .returned (.tuple #[.int .i64 ((u.length : Int) + 1), .int .i64 0]) ∧ Below W.heap.size W w')) (hc92 : c ≠ 92) (h39 : ¬ (c = 39 ∧ u ≠ [])) (h34 : ¬ (c = 34 ∧ u ≠ [])) (hc36 : c ≠ 36) (hk0 : k = 0) (hme : metB (c.toNat : Int) = true) :
    Calls Tryz.prog 61 #[.int .i64 (k : Int), .string (BA (c :: (u ++ rest))), (.func (Fn.func 41) #[.pointer (some ⟨b, 0, none⟩)] #[])] w fun e w' => WThEnd (.err 10) (u ++ rest).length w b X ps e w' := by
  have h2w := he.two
  have HE := hide he
  have HH := hide h
  have HR := hide hr
  have hul : u.length ≤ 4096 := by simp at hrl; omega
  have hub : (u.length : Int) ≤ 4096 := by omega
  have hun : (u.length : Int) + 1 ≤ ((u.length : Int) + (rest.length : Int)) + 1 := by omega
  have hN0 : ((u ++ rest).length + 1 - rest.length : Nat) = u.length + 1 := by simp; omega
  obtain ⟨NN, hNN⟩ : ∃ x, x = (u ++ rest).length := ⟨_, rfl⟩
  rw [← hNN]
  have HN : Hid (((NN + 1 - rest.length : Nat) : Int) = (u.length : Int) + 1) := hide (by rw [hNN, hN0]; rfl)
  clear hNN
  have hsz : (0 : Int) < ((u ++ rest).length : Int) + 1 := by omega
  obtain ⟨cc, hcc⟩ : ∃ x : Int, x = (c.toNat : Int) := ⟨_, rfl⟩
  have hc0 : (((BA (c :: (u ++ rest)))[0]'(by simp)).toNat : Int) = cc := hcc.symm
  have hcr := byte_range c
  have hb92 : (cc == 92) = false := by rw [beq_eq_false_iff_ne, hcc]; exact fun e => hc92 (UInt8.toNat_inj.1 (show c.toNat = 92 by omega))
  have hb36 : (cc == 36) = false := by rw [beq_eq_false_iff_ne, hcc]; exact fun e => hc36 (UInt8.toNat_inj.1 (show c.toNat = 36 by omega))
  have hq39 : (cc == 39) = false ∨ ((cc == 39) = true ∧ ((u.length : Int) + 1 == 1) = true) := by
    by_cases e : c = 39
    · right
      have hu : u = [] := by
        cases u with
        | nil => rfl
        | cons _ _ => exact absurd ⟨e, by simp⟩ h39
      exact ⟨by rw [hcc, e]; rfl, by rw [hu]; rfl⟩
    · left; rw [beq_eq_false_iff_ne, hcc]; exact fun e' => e (UInt8.toNat_inj.1 (show c.toNat = 39 by omega))
  have hq34 : (cc == 34) = false ∨ ((cc == 34) = true ∧ ((u.length : Int) + 1 == 1) = true) := by
    by_cases e : c = 34
    · right
      have hu : u = [] := by
        cases u with
        | nil => rfl
        | cons _ _ => exact absurd ⟨e, by simp⟩ h34
      exact ⟨by rw [hcc, e]; rfl, by rw [hu]; rfl⟩
    · left; rw [beq_eq_false_iff_ne, hcc]; exact fun e' => e (UInt8.toNat_inj.1 (show c.toNat = 34 by omega))
  have HME := hide (fun W => meta_any (c.toNat : Int) W hcr.1 hcr.2)
  rw [hme, ← hcc] at HME
  subst hk0
  clear hc92 h39 h34 hc36 hme
  clear he h hr hrN hcc hN0 hcr 
  go_enter Tryz.func61, Tryz.ntmps61
  go_wp2_with fail
  refine (unhide HPC _ (unhide HE)).mono ?_
  rintro e w1 ⟨rfl, b1⟩
  have HB1 := hide b1
  have HE1 := hide ((unhide HE).below (b1.mono (by omega)))
  have HH1 := hide ((unhide HH).below b1)
  have hw1 : 2 < w1.heap.size := by have := b1.size; omega
  clear b1 HPC
  rcases hq39 with hq39 | ⟨hq39, hal39⟩
  all_goals rcases hq34 with hq34 | ⟨hq34, hal34⟩
  all_goals
    go_wp2_with fail
    refine (unhide HME _).mono ?_
    rintro e w2 ⟨rfl, b2⟩
    have HB2 := hide b2
    clear b2
    go_wp2
    go_ret2
    exact ⟨_, rfl, by decide, (grownS_of_below (unhide HB1)).trans (grownS_of_below (unhide HB2))⟩
end Go.Proofs.YtnamfjbfcbamjaaGreatDoor

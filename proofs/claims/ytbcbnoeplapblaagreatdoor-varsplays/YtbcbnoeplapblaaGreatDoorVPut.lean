/-
  Package vars: a variable is kept.
-/
import Derived.Test.YtbcbnoeplapblaaGreatDoorVOps
namespace Go.Proofs.YtbcbnoeplapblaaGreatDoor
open Go.RowKit Go.Maps

/-- m[name] = x, whatever draws there were. -/
theorem MOwn.store {w : World} {r : Nat} {L : List Vr} (h : w.ownsMap Tryz.prog 9 itself r L.length (datV L)) (x : Vr) (hn : x.name.length ≤ maxLen) (hL : L.length < maxLen) (nq : Nat) :
    ∃ w', (Instr.mapUpdate 53 (.map (some r)) (.string (BA x.name)) x.val).run Tryz.prog (w.drewN nq) = .ok () w' ∧ MOwn w' (some r) (putL L x) ∧ GrownS w w' (fun k => k = r) := by
  have h' : (w.drewN nq).ownsMap Tryz.prog 9 itself r L.length (datV L) := h
  obtain ⟨w', h1, h2, h3⟩ := h'.store strKeyed und_map hL (hk_str x.name hn) (val := x.val) (d := .held x.val) (ps := []) rfl
  refine ⟨w', h1, .inr ⟨r, rfl, owns_len (by rw [put_enc] at h2; exact h2)⟩, ?_⟩
  have hg := h3.grown
  have := GrownS.of hg (S := fun k => k = r) (fun k e => by simpa using e)
  exact ⟨this.os, this.tape, this.output, this.size, this.block⟩
theorem eq_some (r : Nat) (W : World) : (binOp .eql 53 (.map (some r)) (.map none)).run Tryz.prog W = .ok (.bool false) W := by kernel_rfl
theorem eq_none (W : World) : (binOp .eql 53 (.map none) (.map none)).run Tryz.prog W = .ok (.bool true) W := by kernel_rfl
set_option maxRecDepth 20000 in
set_option maxHeartbeats 4000000 in
theorem put_some (b r : Nat) (v : Value) (s : VSt) (xn : List UInt8) (x : Vr) (w : World) (hb : Blk w b 55 #[.string (BA s.zero), v, .map (some r), .int .i64 s.st]) (hm : w.ownsMap Tryz.prog 9 itself r s.L.length (datV s.L)) (hn : x.name.length ≤ 100000) (hL : s.L.length ≤ 1000) :
    Calls Tryz.prog 44 #[.pointer (some ⟨b, 0, none⟩), .string (BA x.name), .agg #[.string (BA xn), .string (BA x.value), .bool x.set, .bool x.ex, .bool x.ro]] w fun e w' => e = .returned (.tuple #[]) ∧ MOwn w' (some r) (putL s.L x) ∧ GrownS w w' (fun k => k = r) := by
  have c2 : w.cell? ⟨b, 2, none⟩ = some (.map (some r)) := hb.cell 2 rfl
  have hbl := hb.lt
  have hbr : b ≠ r := fun e => blk_map hb (.inr ⟨r, rfl, hm⟩) (by rw [e])
  have hrl := hm.lt
  have HM := hide hm
  have heq := eq_some r
  obtain ⟨xnm, xvl, xs, xe, xr⟩ := x
  simp only at hn ⊢
  clear hb hm
  go_enter Tryz.func44, Tryz.ntmps44
  go_wp2_with fail
  obtain ⟨W, hW⟩ : ∃ W, W = w.alloc (.cells #[.string (BA xnm), .string (BA xvl), .bool xs, .bool xe, .bool xr] 61) := ⟨_, rfl⟩
  rw [← hW]
  have hnew : Blk W w.heap.size 61 #[.string (BA xnm), .string (BA xvl), .bool xs, .bool xe, .bool xr] := by rw [hW]; exact Blk.new _ _ _
  have HGW : Hid (GrownS w W (fun k => k = r)) := hide (by rw [hW]; exact grownS_of_below ((Below.refl _ w).alloc (Nat.le_refl _) _))
  obtain ⟨nb, hnb⟩ : ∃ nb, nb = w.heap.size := ⟨_, rfl⟩
  rw [← hnb] at hnew ⊢
  have c2' : W.cell? ⟨b, 2, none⟩ = some (.map (some r)) := by rw [hW]; exact cell_alloc c2 _
  have e0 : W.cell? ⟨nb, 0, none⟩ = some (.string (BA xnm)) := hnew.cell 0 rfl
  have e1 : W.cell? ⟨nb, 1, none⟩ = some (.string (BA xvl)) := hnew.cell 1 rfl
  have e2 : W.cell? ⟨nb, 2, none⟩ = some (.bool xs) := hnew.cell 2 rfl
  have e3 : W.cell? ⟨nb, 3, none⟩ = some (.bool xe) := hnew.cell 3 rfl
  have e4 : W.cell? ⟨nb, 4, none⟩ = some (.bool xr) := hnew.cell 4 rfl
  have hmW : W.ownsMap Tryz.prog 9 itself r s.L.length (datV s.L) := by rw [hW]; exact (unhide HM).alloc _
  obtain ⟨Wd, hrun, hmd, hgd⟩ := MOwn.store hmW ⟨xnm, xvl, xs, xe, xr⟩ (by unfold maxLen; exact Nat.le_trans hn (by decide)) (by unfold maxLen; omega) 1
  have hrun : (Instr.mapUpdate 53 (.map (some r)) (.string (BA xnm)) (.agg #[.string (BA xnm), .string (BA xvl), .bool xs, .bool xe, .bool xr])).run Tryz.prog W.drew = .ok () Wd := hrun
  have HMD := hide hmd
  have HGD := hide ((unhide HGW).trans hgd)
  have hnr : nb ≠ r := by rw [hnb]; omega
  have hkb : ∀ o, Wd.cell? ⟨b, o, none⟩ = W.cell? ⟨b, o, none⟩ := fun o => by
    unfold World.cell?
    rw [hgd.block b (by rw [hW]; simp; omega) hbr]
  have hkn : ∀ o, Wd.cell? ⟨nb, o, none⟩ = W.cell? ⟨nb, o, none⟩ := fun o => by
    unfold World.cell?
    rw [hgd.block nb (by rw [hW, hnb]; simp) hnr]
  have d0 : Wd.cell? ⟨b, 2, none⟩ = some (.map (some r)) := by rw [hkb]; exact c2'
  have d1 : Wd.cell? ⟨nb, 0, none⟩ = some (.string (BA xnm)) := by rw [hkn]; exact e0
  have d2 : Wd.cell? ⟨nb, 1, none⟩ = some (.string (BA xvl)) := by rw [hkn]; exact e1
  have d3 : Wd.cell? ⟨nb, 2, none⟩ = some (.bool xs) := by rw [hkn]; exact e2
  have d4 : Wd.cell? ⟨nb, 3, none⟩ = some (.bool xe) := by rw [hkn]; exact e3
  have d5 : Wd.cell? ⟨nb, 4, none⟩ = some (.bool xr) := by rw [hkn]; exact e4
  clear hW hnb hnew hmW hmd hgd c2 hbl hn HM hkb hkn hnr hbr hrl
  go_region_held3 (fun w' => w'.cell? ⟨b, 2, none⟩ = some (.map (some r)) ∧ w'.cell? ⟨nb, 0, none⟩ = some (.string (BA xnm)) ∧ w'.cell? ⟨nb, 1, none⟩ = some (.string (BA xvl)) ∧ w'.cell? ⟨nb, 2, none⟩ = some (.bool xs) ∧ w'.cell? ⟨nb, 3, none⟩ = some (.bool xe) ∧ w'.cell? ⟨nb, 4, none⟩ = some (.bool xr)) (go_keep) (fail)
  go_wp2_with fail
  exact bodyPost_end (res0 rfl _ _) rfl ⟨rfl, unhide HMD, unhide HGD⟩
set_option maxRecDepth 20000 in
set_option maxHeartbeats 4000000 in
theorem put_none (b : Nat) (v : Value) (s : VSt) (xn : List UInt8) (x : Vr) (w : World) (hb : Blk w b 55 #[.string (BA s.zero), v, .map none, .int .i64 s.st]) (hL : s.L = []) (hn : x.name.length ≤ 100000) :
    Calls Tryz.prog 44 #[.pointer (some ⟨b, 0, none⟩), .string (BA x.name), .agg #[.string (BA xn), .string (BA x.value), .bool x.set, .bool x.ex, .bool x.ro]] w fun e w' => e = .returned (.tuple #[]) ∧ ∃ r, w.heap.size ≤ r ∧ Blk w' b 55 #[.string (BA s.zero), v, .map (some r), .int .i64 s.st] ∧ MOwn w' (some r) (putL s.L x) ∧ GrownS w w' (fun k => k = b) := by
  have c2 : w.cell? ⟨b, 2, none⟩ = some (.map none) := hb.cell 2 rfl
  have f2 : w.frozen? ⟨b, 2, none⟩ = false := hb.frozen 2
  have hbl := hb.lt
  have HBK := hide hb
  have HLL := hide hL
  clear hL
  have heq := eq_none
  have hmk : ∀ W : World, (Instr.makeMap 53 none).run Tryz.prog W = .ok (.map (some W.heap.size)) (W.alloc (.map #[] 0)) := fun W => by kernel_rfl
  obtain ⟨xnm, xvl, xs, xe, xr⟩ := x
  simp only at hn ⊢
  clear hb
  go_enter Tryz.func44, Tryz.ntmps44
  go_wp2_with fail
  obtain ⟨W1, hW1⟩ : ∃ W, W = w.setCell ⟨b, 2, none⟩ (.map (some (w.heap.size + 1))) := ⟨_, rfl⟩
  rw [← hW1]
  have hz1 : W1.heap.size = w.heap.size := by rw [hW1]; simp
  have hb1 : Blk W1 b 55 #[.string (BA s.zero), v, .map (some (w.heap.size + 1)), .int .i64 s.st] := by rw [hW1]; exact (unhide HBK).set 2 _
  have hg1 : GrownS w W1 (fun k => k = b) := by rw [hW1]; exact GrownS.of (grown_setCell w _ _) (fun k e => by simpa using e)
  obtain ⟨W2, hW2⟩ : ∃ W, W = W1.alloc (.cells #[.string (BA xnm), .string (BA xvl), .bool xs, .bool xe, .bool xr] 61) := ⟨_, rfl⟩
  rw [← hW2]
  have hn2 : Blk W2 w.heap.size 61 #[.string (BA xnm), .string (BA xvl), .bool xs, .bool xe, .bool xr] := by rw [hW2, ← hz1]; exact Blk.new _ _ _
  have hz2 : W2.heap.size = w.heap.size + 1 := by rw [hW2, ← hz1]; simp
  obtain ⟨W, hW⟩ : ∃ W, W = W2.alloc (.map #[] 0) := ⟨_, rfl⟩
  rw [← hW]
  have hz : W.heap.size = w.heap.size + 2 := by rw [hW]; simp; omega
  have hbW : Blk W b 55 #[.string (BA s.zero), v, .map (some (w.heap.size + 1)), .int .i64 s.st] := by rw [hW, hW2]; exact (hb1.alloc _).alloc _
  have hnew : Blk W w.heap.size 61 #[.string (BA xnm), .string (BA xvl), .bool xs, .bool xe, .bool xr] := by rw [hW]; exact hn2.alloc _
  have hgW : GrownS w W (fun k => k = b) := hg1.trans (by rw [hW, hW2]; exact (grownS_of_below ((Below.refl _ W1).alloc (Nat.le_refl _) _)).trans (grownS_of_below ((Below.refl _ _).alloc (Nat.le_refl _) _)))
  have hmW : W.ownsMap Tryz.prog 9 itself (w.heap.size + 1) s.L.length (datV s.L) := by
    have := World.ownsMap_made (H := Value) W2 Tryz.prog 9 itself
    rw [← hW, hz2] at this
    rw [unhide HLL]
    exact this
  obtain ⟨nb, hnb⟩ : ∃ nb, nb = w.heap.size := ⟨_, rfl⟩
  obtain ⟨r, hr⟩ : ∃ r, r = w.heap.size + 1 := ⟨_, rfl⟩
  rw [← hr] at hmW hbW ⊢
  rw [← hnb] at hnew ⊢
  have c2' : W.cell? ⟨b, 2, none⟩ = some (.map (some r)) := hbW.cell 2 rfl
  have e0 : W.cell? ⟨nb, 0, none⟩ = some (.string (BA xnm)) := hnew.cell 0 rfl
  have e1 : W.cell? ⟨nb, 1, none⟩ = some (.string (BA xvl)) := hnew.cell 1 rfl
  have e2 : W.cell? ⟨nb, 2, none⟩ = some (.bool xs) := hnew.cell 2 rfl
  have e3 : W.cell? ⟨nb, 3, none⟩ = some (.bool xe) := hnew.cell 3 rfl
  have e4 : W.cell? ⟨nb, 4, none⟩ = some (.bool xr) := hnew.cell 4 rfl
  obtain ⟨Wd, hrun, hmd, hgd⟩ := MOwn.store hmW ⟨xnm, xvl, xs, xe, xr⟩ (by unfold maxLen; exact Nat.le_trans hn (by decide)) (by rw [unhide HLL]; unfold maxLen; decide) 1
  have hrun : (Instr.mapUpdate 53 (.map (some r)) (.string (BA xnm)) (.agg #[.string (BA xnm), .string (BA xvl), .bool xs, .bool xe, .bool xr])).run Tryz.prog W.drew = .ok () Wd := hrun
  have hnr : nb ≠ r := by omega
  have hbr : b ≠ r := by omega
  have hkb : ∀ o, Wd.cell? ⟨b, o, none⟩ = W.cell? ⟨b, o, none⟩ := fun o => by
    unfold World.cell?
    rw [hgd.block b (by omega) hbr]
  have hkn : ∀ o, Wd.cell? ⟨nb, o, none⟩ = W.cell? ⟨nb, o, none⟩ := fun o => by
    unfold World.cell?
    rw [hgd.block nb (by omega) hnr]
  have d0 : Wd.cell? ⟨b, 2, none⟩ = some (.map (some r)) := by rw [hkb]; exact c2'
  have d1 : Wd.cell? ⟨nb, 0, none⟩ = some (.string (BA xnm)) := by rw [hkn]; exact e0
  have d2 : Wd.cell? ⟨nb, 1, none⟩ = some (.string (BA xvl)) := by rw [hkn]; exact e1
  have d3 : Wd.cell? ⟨nb, 2, none⟩ = some (.bool xs) := by rw [hkn]; exact e2
  have d4 : Wd.cell? ⟨nb, 3, none⟩ = some (.bool xe) := by rw [hkn]; exact e3
  have d5 : Wd.cell? ⟨nb, 4, none⟩ = some (.bool xr) := by rw [hkn]; exact e4
  have HEND : Hid (w.heap.size ≤ r ∧ Blk Wd b 55 #[.string (BA s.zero), v, .map (some r), .int .i64 s.st] ∧ MOwn Wd (some r) (putL s.L ⟨xnm, xvl, xs, xe, xr⟩) ∧ GrownS w Wd (fun k => k = b)) := hide ⟨by omega, hbW.grownS hgd hbr, hmd, ⟨hgd.os.trans hgW.os, hgd.tape.trans hgW.tape, hgd.output.trans hgW.output, Nat.le_trans hgW.size hgd.size, fun k hk hne => (hgd.block k (by omega) (by omega)).trans (hgW.block k hk hne)⟩⟩
  clear hW hW1 hW2 hz hz1 hz2 hb1 hn2 hbW hnew hgW hg1 hmW hmd hgd hkb hkn hnr hbr hnb hr c2 f2 hbl HBK hn
  go_region_held3 (fun w' => w'.cell? ⟨b, 2, none⟩ = some (.map (some r)) ∧ w'.cell? ⟨nb, 0, none⟩ = some (.string (BA xnm)) ∧ w'.cell? ⟨nb, 1, none⟩ = some (.string (BA xvl)) ∧ w'.cell? ⟨nb, 2, none⟩ = some (.bool xs) ∧ w'.cell? ⟨nb, 3, none⟩ = some (.bool xe) ∧ w'.cell? ⟨nb, 4, none⟩ = some (.bool xr)) (go_keep) (fail)
  go_wp2_with fail
  exact bodyPost_end (res0 rfl _ _) rfl ⟨rfl, r, unhide HEND⟩
/-- A variable is kept. -/
theorem put_any (b : Nat) (X : Nat → Prop) (s : VSt) (xn : List UInt8) (x : Vr) (w : World) (hX : ∀ k, w.heap.size ≤ k → X k) (h : VAt w b X s) (hn : x.name.length ≤ 100000) (hL : s.L.length ≤ 1000) :
    Calls Tryz.prog 44 #[.pointer (some ⟨b, 0, none⟩), .string (BA x.name), .agg #[.string (BA xn), .string (BA x.value), .bool x.set, .bool x.ex, .bool x.ro]] w fun e w' => e = .returned (.tuple #[]) ∧ VAt w' b X { s with L := putL s.L x } ∧ GrownS w w' X := by
  obtain ⟨v, m, hb, ha, hm, x1, x2, x3⟩ := h
  have hm' := hm
  rcases hm with ⟨rfl, hl⟩ | ⟨r, rfl, ho⟩
  · refine (put_none b v s xn x w hb hl hn).mono ?_
    rintro e w' ⟨he, r, hr, hb', hm2, hg⟩
    exact ⟨he, ⟨v, some r, hb', ha.grown hg (fun k hk e => blk_row hb ha (by rw [hk, e])), hm2, x1, x2, fun k hk => by injection hk with hk; rw [← hk]; exact hX r hr⟩, hg.mono (fun k _ e => by rw [e]; exact x1)⟩
  · refine (put_some b r v s xn x w hb ho hn hL).mono ?_
    rintro e w' ⟨he, hm2, hg⟩
    exact ⟨he, ⟨v, some r, hb.grownS hg (fun e => blk_map hb hm' (by rw [e])), ha.grown hg (fun k hk e => row_map ha hm' hk (by rw [e])), hm2, x1, x2, x3⟩, hg.mono (fun k _ e => by rw [e]; exact x3 r rfl)⟩

end Go.Proofs.YtbcbnoeplapblaaGreatDoor

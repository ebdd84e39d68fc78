/-
  Package vars: Copy.
-/
import Derived.Test.YtbcbnoeplapblaaDoorVPar
import Derived.Test.YtbcbnoeplapblaaDoorClone
namespace Go.Proofs.YtbcbnoeplapblaaDoor
open Go.RowKit Go.Maps

/-- maps.Clone. -/
theorem clone_map (m : Option Nat) (L : List Vr) (w : World) (h : MOwn w m L) :
    Calls Tryd.prog 53 #[.map m] w fun e w' => ∃ m', e = .returned (.map m') ∧ MOwn w' m' L ∧ (∀ k, m' = some k → w.heap.size ≤ k) ∧ Below w.heap.size w w' := by
  rcases h with ⟨rfl, rfl⟩ | ⟨r, rfl, ho⟩
  · refine (AnyW.maps_Clone_nil Tryd.cloneM w).mono ?_
    rintro e w' ⟨rfl, rfl⟩
    exact ⟨none, rfl, .inl ⟨rfl, rfl⟩, fun k hk => (by cases hk), Below.refl _ _⟩
  · refine (AnyW.maps_Clone_owns Tryd.cloneM 9 itself r L.length (datV L) w ho).mono ?_
    rintro e w' ⟨rfl, h1, _, hb⟩
    exact ⟨some w.heap.size, rfl, .inr ⟨_, rfl, h1⟩, fun k hk => by injection hk with hk; omega, hb⟩
set_option maxRecDepth 20000 in
set_option maxHeartbeats 8000000 in
theorem copy_any (b : Nat) (X : Nat → Prop) (s : VSt) (w : World) (h : VAt w b X s) (hl : s.args.length ≤ 1000000) :
    Calls Tryd.prog 24 #[.pointer (some ⟨b, 0, none⟩)] w fun e w' => ∃ b2, e = .returned (.pointer (some ⟨b2, 0, none⟩)) ∧ VAt w' b2 (fun k => w.heap.size ≤ k) s ∧ Below w.heap.size w w' := by
  obtain ⟨u, m, hb, hau, hm, _⟩ := h
  have c0 : w.cell? ⟨b, 0, none⟩ = some (.string (BA s.zero)) := hb.cell 0 rfl
  have c2 : w.cell? ⟨b, 2, none⟩ = some (.map m) := hb.cell 2 rfl
  have c3 : w.cell? ⟨b, 3, none⟩ = some (.int .i64 s.st) := hb.cell 3 rfl
  have hbl := hb.lt
  have HCL : Hid (Calls Tryd.prog 53 #[.map m] w.drew fun e w' => ∃ m', e = .returned (.map m') ∧ w'.cell? ⟨b, 0, none⟩ = some (.string (BA s.zero)) ∧ w'.cell? ⟨b, 2, none⟩ = some (.map m) ∧ w'.cell? ⟨b, 3, none⟩ = some (.int .i64 s.st) ∧ Hid (MOwn w' m' s.L ∧ (∀ k, m' = some k → w.heap.size ≤ k) ∧ Below w.heap.size w w')) := hide (by
    have hd : Below w.heap.size w w.drew := below_drew w 1
    refine (clone_map m s.L w.drew (hm.grown (grownS_of_below (S := fun _ => False) hd) (fun _ _ e => e))).mono ?_
    rintro e w' ⟨m', rfl, h1, h2, h3⟩
    have hB : Below w.heap.size w w' := hd.trans h3
    exact ⟨m', rfl, (hB.cell (p := ⟨b, 0, none⟩) hbl).trans c0, (hB.cell (p := ⟨b, 2, none⟩) hbl).trans c2, (hB.cell (p := ⟨b, 3, none⟩) hbl).trans c3, hide ⟨h1, h2, hB⟩⟩)
  have HV := hide (And.intro hb (And.intro hau hm))
  clear hb hau hm
  go_enter Tryd.func24, Tryd.ntmps24
  go_wp2_with fail
  go_region_held3 (fun w' => w'.cell? ⟨b, 0, none⟩ = some (.string (BA s.zero)) ∧ w'.cell? ⟨b, 2, none⟩ = some (.map m) ∧ w'.cell? ⟨b, 3, none⟩ = some (.int .i64 s.st)) (go_keep) ((go_at_call 53; refine (unhide HCL).mono ?_; rintro e w' ⟨m', rfl, d0, d2, d3, HM⟩))
  obtain ⟨W, hW⟩ : ∃ W, W = w'.alloc (.cells #[.string (BA s.zero), .slice none 0 0, .map m', .int .i64 s.st] 62) := ⟨_, rfl⟩
  rw [← hW]
  have hBW : Below w'.heap.size w' W := by rw [hW]; exact (Below.refl _ _).alloc (Nat.le_refl _) _
  have hB : Below w.heap.size w W := (unhide HM).2.2.trans (hBW.mono (unhide HM).2.2.size)
  have hv : VAt W w'.heap.size (fun k => w.heap.size ≤ k) ⟨s.zero, [], s.L, s.st⟩ := ⟨.slice none 0 0, m', by rw [hW]; exact Blk.new _ _ _, .inl ⟨rfl, rfl⟩, (unhide HM).1.grown (grownS_of_below (S := fun _ => False) hBW) (fun _ _ e => e), (unhide HM).2.2.size, fun k hk => (by cases hk), fun k hk => (unhide HM).2.1 k hk⟩
  have hd : Below W.heap.size W W.drew := below_drew W 1
  have hu : AIn W.drew u s.args := (unhide HV).2.1.read.below (hB.trans (hd.mono hB.size))
  have c1 : W.cell? ⟨b, 1, none⟩ = some u := (hB.cell (p := ⟨b, 1, none⟩) hbl).trans ((unhide HV).1.cell 1 rfl)
  obtain ⟨b2, hb2⟩ : ∃ b2, b2 = w'.heap.size := ⟨_, rfl⟩
  rw [← hb2] at hv
  rw [← hb2]
  have HRP : Hid (Calls Tryd.prog 29 #[.pointer (some ⟨b2, 0, none⟩), u] W.drew fun e w2 => e = .returned (.tuple #[]) ∧ w2.cell? ⟨b, 1, none⟩ = some u ∧ Hid (VAt w2 b2 (fun k => w.heap.size ≤ k) s ∧ Below w.heap.size w w2)) := hide (by
    refine (replace_any b2 (fun k => w.heap.size ≤ k) _ u s.args W.drew (fun k hk => Nat.le_trans (hB.trans (hd.mono hB.size)).size hk) (hv.below hd) hu hl).mono ?_
    rintro e w2 ⟨h1, h2, h3⟩
    have hB2 : Below w.heap.size w w2 := (hB.trans (hd.mono hB.size)).trans (h3.below (hB.trans (hd.mono hB.size)).size (fun k hk => hk))
    exact ⟨h1, (hB2.cell (p := ⟨b, 1, none⟩) hbl).trans ((unhide HV).1.cell 1 rfl), hide ⟨h2, hB2⟩⟩)
  obtain ⟨au, acap, hu2, _⟩ := hu
  subst hu2
  clear hW hBW hB hv hd hb2 c0 c2 c3 d0 d2 d3 HM HCL HV hbl
  go_wp2_with fail
  go_region_held3 (fun w' => w'.cell? ⟨b, 1, none⟩ = some (.slice au s.args.length acap)) (go_keep) ((go_at_call 29; refine (unhide HRP).mono ?_; rintro e w2 ⟨rfl, d1, HE⟩))
  go_wp2
  go_ret
  exact ⟨b2, rfl, unhide HE⟩

end Go.Proofs.YtbcbnoeplapblaaDoor

/-
  FdsEnds: the walk.
-/
import Derived.Test.YtemologkibcdoaaGreatDoorFdEnd5
namespace Go.Proofs.YtemologkibcdoaaGreatDoor
open Go.RowKit Go.Maps

theorem pick_set (s : Int) (M : Nat) (h1 : 1 ≤ M) (h2 : M ≤ 1000) : ∃ k : Nat, (wrap64 (s.tmod M + M)).tmod M = (k : Int) ∧ k < M := by
  have hp : (0 : Int) < (M : Int) := by omega
  have e1 := Int.tmod_lt_of_pos s hp
  have e2 := Int.lt_tmod_of_pos s hp
  have e3 : wrap64 (s.tmod M + M) = s.tmod M + M := by unfold wrap64; omega
  rw [e3]
  have e4 := Int.tmod_lt_of_pos (s.tmod M + M) hp
  have e5 : 0 ≤ (s.tmod M + M).tmod M := Int.tmod_nonneg _ (by omega)
  exact ⟨((s.tmod M + M).tmod M).toNat, by omega, by omega⟩
theorem LS.shape {w wr : World} {f x n : Nat} {v : Value} {sb : List Nat} (S : LS w wr f x v n sb) (h : 1 ≤ sb.length) : ∃ g cap, v = .slice (some ⟨g, 0, none⟩) sb.length cap := by
  obtain ⟨q, Z, _, R⟩ := S
  obtain ⟨g, c, h, _⟩ := R.cell (List.getElem?_eq_getElem (i := 0) (by omega))
  exact ⟨g, c, h⟩
/-- The state beside a box that the law has made. -/
def LSB (w wr : World) (f x : Nat) (v : Value) (n : Nat) (sb : List Nat) (nb ty : Nat) (cs : Array Value) : Prop := ∃ q Z, DoG wr f q Z 20 n (Bas.of w) x sb 9 ∧ LRow w wr f Z v sb ∧ ¬ Z nb ∧ Blk wr nb ty cs
theorem LSB.ls {w wr : World} {f x n nb ty : Nat} {v : Value} {sb : List Nat} {cs : Array Value} (S : LSB w wr f x v n sb nb ty cs) : LS w wr f x v n sb := by
  obtain ⟨q, Z, D, R, _⟩ := S
  exact ⟨q, Z, D, R⟩
theorem LSB.below {w wr w' : World} {f x n nb ty : Nat} {v : Value} {sb : List Nat} {cs : Array Value} (S : LSB w wr f x v n sb nb ty cs) (hb : Below wr.heap.size wr w') : LSB w w' f x v n sb nb ty cs := by
  obtain ⟨q, Z, D, R, hz, hB⟩ := S
  exact ⟨q, Z, D.below hb, R.grown (grownS_of_below hb), hz, hB.below hb hB.lt⟩
theorem LS.box {w wr : World} {f x n : Nat} {v : Value} {sb : List Nat} (S : LS w wr f x v n sb) (ty : Nat) (cs : Array Value) : LSB w (wr.alloc (.cells cs ty)) f x v n sb wr.heap.size ty cs := by
  obtain ⟨q, Z, D, R⟩ := S
  have hbel : Below wr.heap.size wr (wr.alloc (.cells cs ty)) := (Below.refl _ _).alloc (Nat.le_refl _) _
  have hs : (wr.alloc (.cells cs ty)).heap.size = wr.heap.size + 1 := by simp
  have R' := R.grown (grownS_of_below hbel)
  refine ⟨q, _, D.renew hbel, ⟨R'.own, fun g hg => ⟨?_, (R.out g hg).2⟩⟩, ?_, Blk.new _ _ _⟩
  · have hlt : g < wr.heap.size := by
      obtain ⟨_, ⟨rfl, _⟩ | ⟨g2, cap, cur, rfl, _, h2, _⟩⟩ := R.own
      · cases hg
      · injection hg with hg
        rw [← hg]
        exact (Array.getElem?_eq_some_iff.1 h2).1
    rintro (h | h)
    · exact (R.out g hg).1 h.1
    · omega
  · rintro (h | h)
    · exact absurd h.2 (Nat.lt_irrefl _)
    · omega
theorem LSB.do {w wr : World} {f x n k b nb ty : Nat} {v : Value} {sb : List Nat} {cs : Array Value} (S : LSB w wr f x v n sb nb ty cs) (hb : sb[k]? = some b) (hn : n ≤ 7000) (o : Op16) (ok : o.ok) (ht : o.text.length ≤ 500) : Calls Tryz.prog 10 #[.pointer (some ⟨b, 0, none⟩), .agg #[.int .i64 o.set, .int .i64 o.ask, .int .i64 o.fd, .int .i64 o.n, .string (BA o.text)]] wr fun e w' => (∃ u, e = .returned u) ∧ Hid (LSB w w' f x v (n + 16) sb nb ty cs) := by
  obtain ⟨q, Z, D, R, hz, hB⟩ := S
  exact (ls_do D hb hn o ok ht).mono (fun e w' h => ⟨h.1, hide ⟨q, Z, (unhide h.2).1, R.grown (unhide h.2).2, hz, hB.grownS (unhide h.2).2 hz⟩⟩)
/-- The state while the sets end. -/
def LE (w wr : World) (f x : Nat) (v : Value) (n : Nat) (sb : List Nat) (j : Nat) : Prop := ∃ q Z, DoE wr f q Z 20 n (Bas.of w) x sb 9 j ∧ LRow w wr f Z v sb
theorem LS.ends {w wr : World} {f x n : Nat} {v : Value} {sb : List Nat} (S : LS w wr f x v n sb) : LE w wr f x v n sb 0 := by
  obtain ⟨q, Z, D, R⟩ := S
  exact ⟨q, Z, D.ends, R⟩
theorem LE.end {w wr : World} {f x n j b : Nat} {v : Value} {sb : List Nat} (S : LE w wr f x v n sb j) (hb : sb[j]? = some b) (hn : n ≤ 8000) : (∃ g cap, v = .slice (some ⟨g, 0, none⟩) sb.length cap ∧ wr.cell? ⟨g, j, none⟩ = some (.pointer (some ⟨b, 0, none⟩))) ∧ Calls Tryz.prog 12 #[.pointer (some ⟨b, 0, none⟩)] wr fun e w' => e = .returned (.tuple #[]) ∧ Hid (LE w w' f x v (n + 16) sb (j + 1)) := by
  obtain ⟨q, Z, D, R⟩ := S
  exact ⟨R.cell hb, (ls_end D hb hn).mono (fun e w' h => ⟨h.1, hide ⟨q, Z, (unhide h.2).1, R.grown (unhide h.2).2⟩⟩)⟩
theorem LE.list {w wr : World} {f x n j b : Nat} {v : Value} {sb : List Nat} (S : LE w wr f x v n sb (j + 1)) (hb : sb[j]? = some b) : (∃ g cap, v = .slice (some ⟨g, 0, none⟩) sb.length cap ∧ wr.cell? ⟨g, j, none⟩ = some (.pointer (some ⟨b, 0, none⟩))) ∧ Calls Tryz.prog 13 #[.pointer (some ⟨b, 0, none⟩)] wr fun e w' => ∃ ad cap, e = .returned (.slice ad 0 cap) ∧ Hid (LE w w' f x v n sb (j + 1)) := by
  obtain ⟨q, Z, D, R⟩ := S
  exact ⟨R.cell hb, (ls_list D hb).mono (fun e w' h => by
    obtain ⟨ad, cap, h1, h2⟩ := h
    exact ⟨ad, cap, h1, hide ⟨q, Z, D.below (unhide h2), R.grown (grownS_of_below (unhide h2))⟩⟩)⟩
theorem LE.all {w wr : World} {f x n j : Nat} {v : Value} {sb : List Nat} (S : LE w wr f x v n sb j) (hj : sb.length ≤ j) : (Calls Tryz.prog 11 #[.pointer (some ⟨x, 0, none⟩)] wr fun e w' => e = .returned (.int .i64 0) ∧ w' = wr) ∧ ∃ q Y l, DoT wr f q Y 20 n (Bas.of w) 9 l := by
  obtain ⟨q, Z, D, R⟩ := S
  obtain ⟨h1, Y, l, h2⟩ := D.all hj
  exact ⟨h1, q, Y, l, h2⟩
/-- The state while the names go. -/
def LT (w wr : World) (f : Nat) (v : Value) (n : Nat) (L : List Nm) (i : Nat) : Prop := ∃ q Y, DoT wr f q Y 20 n (Bas.of w) 9 (L.drop i) ∧ ∀ (k : Nat) (y : Nm), L[k]? = some y → ∃ g cap, v = .slice (some ⟨g, 0, none⟩) L.length cap ∧ ¬ Y g ∧ g < wr.heap.size ∧ wr.cell? ⟨g, k, none⟩ = some (.string (BA y.name))
theorem LT.below {w wr w' : World} {f n i : Nat} {v : Value} {L : List Nm} (S : LT w wr f v n L i) (hb : Below wr.heap.size wr w') : LT w w' f v n L i := by
  obtain ⟨q, Y, D, R⟩ := S
  refine ⟨q, Y, D.below hb, fun k y hy => ?_⟩
  obtain ⟨g, cap, h1, h2, h3, h4⟩ := R k y hy
  exact ⟨g, cap, h1, h2, Nat.lt_of_lt_of_le h3 hb.size, (hb.cell (p := ⟨g, k, none⟩) h3).trans h4⟩
theorem LT.names {w wr : World} {f q n : Nat} {Y : Nat → Prop} {L : List Nm} (D : DoT wr f q Y 20 n (Bas.of w) 9 L) (hn : n ≤ 100000) : Calls Tryz.prog 14 #[.pointer (some ⟨f, 0, none⟩), .int .i64 1] wr fun e w' => ∃ ad cap, e = .returned (.tuple #[.slice ad L.length cap, .int .i64 0]) ∧ Hid (LT w w' f (.slice ad L.length cap) n L 0) := by
  refine (ls_names D hn).mono (fun e w' h => ?_)
  obtain ⟨v, h1, h2⟩ := h
  obtain ⟨hr, ho, hb⟩ := unhide h2
  have D' := D.renew hb
  rcases hr with ⟨rfl, hl⟩ | ⟨g, cap, cs, rfl, _, _, hg, _, hc⟩
  · have hl0 : L = [] := by
      cases L with
      | nil => rfl
      | cons a r => cases hl
    subst hl0
    exact ⟨none, 0, h1, hide ⟨q, _, D', fun k y hy => by cases hy⟩⟩
  · rw [List.length_map] at h1
    have hlt : g < w'.heap.size := (Array.getElem?_eq_some_iff.1 hg).1
    refine ⟨some ⟨g, 0, none⟩, cap, h1, hide ⟨q, _, D', fun k y hy => ⟨g, cap, rfl, ?_, hlt, ?_⟩⟩⟩
    · have := ho g rfl
      rintro (h | h)
      · have := h.2
        omega
      · omega
    · have hB : Blk w' g 9 cs := hg
      exact hB.cell k (hc k y.name (by rw [List.getElem?_map, hy]; rfl))
theorem LT.unlink {w wr : World} {f n i : Nat} {v : Value} {L : List Nm} {y : Nm} (S : LT w wr f v n L i) (hy : L[i]? = some y) (hn : n ≤ 10000) : (∃ g cap, v = .slice (some ⟨g, 0, none⟩) L.length cap ∧ wr.cell? ⟨g, i, none⟩ = some (.string (BA y.name))) ∧ Calls Tryz.prog 15 #[.pointer (some ⟨f, 0, none⟩), .int .i64 1, .string (BA y.name)] wr fun e w' => e = .returned (.int .i64 0) ∧ Hid (LT w w' f v (n + 1) L (i + 1)) := by
  obtain ⟨q, Y, D, R⟩ := S
  obtain ⟨g, cap, h1, _, _, h4⟩ := R i y hy
  refine ⟨⟨g, cap, h1, h4⟩, ?_⟩
  have e : L.drop i = y :: L.drop (i + 1) := by
    obtain ⟨h, h2⟩ := List.getElem?_eq_some_iff.1 hy
    rw [List.drop_eq_getElem_cons h, h2]
  rw [e] at D
  refine (ls_unlink D hn).mono (fun e w' h => ⟨h.1, hide ⟨q, Y, (unhide h.2).1, fun k z hz => ?_⟩⟩)
  obtain ⟨g, cap, h1, h2, h3, h4⟩ := R k z hz
  have hg := (unhide h.2).2
  refine ⟨g, cap, h1, h2, Nat.lt_of_lt_of_le h3 hg.size, ?_⟩
  have hbk := hg.block g h3 h2
  simp only [World.cell?] at h4 ⊢
  rw [hbk]
  exact h4
theorem LT.free {w wr : World} {f n i : Nat} {v : Value} {L : List Nm} (S : LT w wr f v n L i) (hi : L.length ≤ i) : (Calls Tryz.prog 7 #[.pointer (some ⟨f, 0, none⟩)] wr fun e w' => e = .returned (fr0 9 20) ∧ w' = wr) ∧ EnvB wr (Bas.of w) := by
  obtain ⟨q, Y, D, R⟩ := S
  rw [List.drop_eq_nil_of_le hi] at D
  refine ⟨ls_free (by decide) D, ?_⟩
  obtain ⟨s, F, _, _⟩ := D
  exact F.nd.env
theorem LT.len {w wr : World} {f n : Nat} {v : Value} {L : List Nm} (S : LT w wr f v n L 0) : L.length ≤ n := by
  obtain ⟨q, Y, D, R⟩ := S
  exact D.len.1
set_option maxRecDepth 20000 in
set_option maxHeartbeats 8000000 in
theorem fdsends_walk (v : Value) (l : List Op16) (w : World) (E : EnvB w (Bas.of w)) (hl : ORow w v l) : Calls Tryz.prog 3 #[v] w fun e w' => e = .returned (.bool true) ∧ Below w.heap.size w w' := by
  obtain ⟨ad, cap, rfl, hrow⟩ := hl
  have HA : Hid (∀ W, EnvB W (Bas.of w) → Calls Tryz.prog 8 #[] W fun e w' => e = .returned (.bool true) ∧ Below w.heap.size w w') := hide (fun W hW => (awake16_any W hW.self).mono (fun e w' h => ⟨h.1, hW.bel.trans (h.2.mono hW.bel.size)⟩))
  have HB := hide (begun_any 9 20 w E (by decide) (by decide) (by decide) (by decide))
  have HROW := hide hrow
  have HIN : Hid (∀ W, EnvB W (Bas.of w) → ∀ g k v, g < w.heap.size → w.cell? ⟨g, k, none⟩ = some v → W.cell? ⟨g, k, none⟩ = some v) := hide (fun W hW g k v hg h => ((hW.bel).cell (p := ⟨g, k, none⟩) hg).trans h)
  obtain ⟨a0, b0, hab⟩ : ∃ a b : Int, fr0 9 20 = .tuple #[.int .i64 a, .int .i64 b] := ⟨_, _, rfl⟩
  have HAB := hide hab
  obtain ⟨N, hN⟩ : ∃ N, N = l.length := ⟨_, rfl⟩
  rw [← hN]
  have HN := hide hN
  clear hrow E hN hab
  go_enter Tryz.func3, Tryz.ntmps3
  go_wp2_with fail
  refine (unhide HB).mono ?_
  rintro e w1 ⟨f, x, s, rfl, h1⟩
  have HFR : Hid (Calls Tryz.prog 7 #[.pointer (some ⟨f, 0, none⟩)] w1 fun e w' => e = .returned (.tuple #[.int .i64 a0, .int .i64 b0]) ∧ w' = w1) := hide (by
    obtain ⟨q, Z, H, L, F⟩ := unhide h1
    have := (ls_start F (by decide)).2
    rw [unhide HAB] at this
    exact this)
  have HST : Hid (LS w (w1.alloc (.cells #[.pointer (some ⟨s, 0, none⟩)] 25)) f x (.slice (some ⟨w1.heap.size, 0, none⟩) 1 1) 2 [s]) := hide (by
    obtain ⟨q, Z, H, L, F⟩ := unhide h1
    exact LS.start (ls_start F (by decide)).1)
  clear h1 HB
  go_wp2_with fail
  refine (unhide HFR).mono ?_
  rintro e w2 ⟨rfl, hw⟩
  subst hw
  clear HFR
  go_wp2_with fail
  go_loopw [8, 9] (fun u i wr => ∃ (z : Nat) (sb : List Nat), i = .int .i64 (z : Int) ∧ z ≤ N ∧ z ≤ 100 ∧ 1 ≤ sb.length ∧ sb.length ≤ z + 1 ∧ Hid (LS w wr f x u (2 + 16 * z) sb)) (fun _ i _ => N + 1 - (intOf i).toNat)
  case atStart => exact ⟨0, [s], rfl, Nat.zero_le _, Nat.zero_le _, Nat.le_refl _, Nat.le_refl _, HST⟩
  case round =>
    clear HST
    obtain ⟨z, sb, rfl, hz, hz2, hs1, hs2, HS⟩ := hrel
    by_cases hlt : z < N ∧ z < 100
    · obtain ⟨o, ho⟩ : ∃ o, l[z]? = some o := ⟨_, List.getElem?_eq_getElem (by rw [← unhide HN]; exact hlt.1)⟩
      obtain ⟨⟨ga, oa, rfl, hga, hc⟩, hok⟩ := unhide HROW z o ho
      obtain ⟨c0, c1, c2, c3, c4⟩ : OCell wr ga (oa + z * 5) o := by
        have hb := unhide HIN wr (unhide HS).env
        exact ⟨hb _ _ _ hga hc.1, hb _ _ _ hga hc.2.1, hb _ _ _ hga hc.2.2.1, hb _ _ _ hga hc.2.2.2.1, hb _ _ _ hga hc.2.2.2.2⟩
      have HOK := hide hok
      obtain ⟨set, ask, fd, n2, tx⟩ := o
      simp only at c0 c1 c2 c3 c4
      have hk1 : (z : Int) < (N : Int) := by omega
      have hk2 : (z : Int) < 100 := by omega
      have hk0 : (0 : Int) ≤ (z : Int) := by omega
      obtain ⟨D, hD⟩ : ∃ D, D = BA tx := ⟨_, rfl⟩
      obtain ⟨dl, hdl⟩ : ∃ dl, dl = tx.length := ⟨_, rfl⟩
      have hDs : D.size = dl := by rw [hD, hdl]; rfl
      rw [← hD] at c4
      have HDD := hide hD
      have HDL := hide hdl
      clear ho hc hga hD hdl hok HROW HIN
      obtain ⟨gs, cs, hu⟩ : ∃ gs cs, u8 = .slice (some ⟨gs, 0, none⟩) sb.length cs := by
        obtain ⟨q, Z, _, R⟩ := unhide HS
        obtain ⟨g, c, h, _⟩ := R.cell (List.getElem?_eq_getElem (i := 0) (by omega))
        exact ⟨g, c, h⟩
      subst hu
      go_upto_region 10 with fail
      obtain ⟨WA, hWA⟩ : ∃ WA, WA = wr.alloc (Obj.cells #[Value.int IntKind.i64 set, Value.int IntKind.i64 ask, Value.int IntKind.i64 fd, Value.int IntKind.i64 n2, Value.string D] 32) := ⟨_, rfl⟩
      obtain ⟨nb, hnb⟩ : ∃ nb, nb = wr.heap.size := ⟨_, rfl⟩
      have PB : Hid (LSB w WA f x (.slice (some ⟨gs, 0, none⟩) sb.length cs) (2 + 16 * z) sb nb 32 #[.int .i64 set, .int .i64 ask, .int .i64 fd, .int .i64 n2, .string D]) := hide (by
        rw [hWA, hnb]
        exact (unhide HS).box _ _)
      have PA := hide (unhide PB).ls
      have hB : Blk WA nb 32 #[.int .i64 set, .int .i64 ask, .int .i64 fd, .int .i64 n2, .string D] := by rw [hWA, hnb]; exact Blk.new _ _ _
      rw [← hWA, ← hnb]
      have e0 : WA.cell? ⟨nb, 0, none⟩ = some (.int .i64 set) := hB.cell 0 rfl
      have e1 : WA.cell? ⟨nb, 1, none⟩ = some (.int .i64 ask) := hB.cell 1 rfl
      have e2 : WA.cell? ⟨nb, 2, none⟩ = some (.int .i64 fd) := hB.cell 2 rfl
      have e3 : WA.cell? ⟨nb, 3, none⟩ = some (.int .i64 n2) := hB.cell 3 rfl
      have e4 : WA.cell? ⟨nb, 4, none⟩ = some (.string D) := hB.cell 4 rfl
      clear hWA hnb HS c0 c1 c2 c3 c4 hB
      by_cases hd : dl ≤ 500
      · have hd1 : ¬ (500 : Int) < (dl : Int) := by omega
        go_upto_region 13 with fail
        obtain ⟨k, hk, hkM⟩ := pick_set set sb.length hs1 (by omega)
        rw [hk]
        obtain ⟨b, hb⟩ : ∃ b, sb[k]? = some b := ⟨_, List.getElem?_eq_getElem hkM⟩
        have q0 : WA.cell? ⟨gs, k, none⟩ = some (.pointer (some ⟨b, 0, none⟩)) := by
          obtain ⟨q, Z, _, R⟩ := unhide PA
          obtain ⟨g, c, h, h2⟩ := R.cell hb
          injection h with h _ _
          injection h with h
          injection h with h
          rw [h]
          exact h2
        have HF : Hid (Calls Tryz.prog 9 #[.pointer (some ⟨b, 0, none⟩)] WA fun e w' => ∃ c, e = .returned (.pointer (some ⟨c, 0, none⟩)) ∧ Hid (∃ v' w3 g5 c5, (∀ ty, (Builtin.append_ #[30, 30] ty #[.slice (some ⟨gs, 0, none⟩) sb.length cs, .slice (some ⟨w'.heap.size, 0, none⟩) 1 1]).run Tryz.prog (w'.alloc (.cells #[.pointer (some ⟨c, 0, none⟩)] 25)) = .ok v' w3) ∧ v' = .slice (some ⟨g5, 0, none⟩) (sb.length + 1) c5 ∧ Hid (LS w w3 f x v' (2 + 16 * (z + 1)) (sb ++ [c])))) := hide (((unhide PA).fork hb (by omega) (by omega)).mono (fun e w' h => by
          obtain ⟨v', w3, h1, h2⟩ := unhide h.2 0
          obtain ⟨g5, c5, h3⟩ := (unhide h2).shape (by simp)
          refine ⟨_, h.1, hide ⟨v', w3, g5, c5, fun ty => Eq.trans rfl h1, by rw [h3, List.length_append, List.length_singleton], h2⟩⟩))
        have HD : Hid (∀ W, Below WA.heap.size WA W → Calls Tryz.prog 10 #[.pointer (some ⟨b, 0, none⟩), .agg #[.int .i64 set, .int .i64 ask, .int .i64 fd, .int .i64 n2, .string D]] W fun e w' => (∃ u, e = .returned u) ∧ (w'.cell? ⟨gs, k, none⟩ = some (.pointer (some ⟨b, 0, none⟩)) ∧ w'.cell? ⟨nb, 0, none⟩ = some (.int .i64 set) ∧ w'.cell? ⟨nb, 1, none⟩ = some (.int .i64 ask) ∧ w'.cell? ⟨nb, 2, none⟩ = some (.int .i64 fd) ∧ w'.cell? ⟨nb, 3, none⟩ = some (.int .i64 n2) ∧ w'.cell? ⟨nb, 4, none⟩ = some (.string D)) ∧ Hid (LS w w' f x (.slice (some ⟨gs, 0, none⟩) sb.length cs) (2 + 16 * (z + 1)) sb)) := hide (fun W hW => by
          have := ((unhide PB).below hW).do hb (by omega) ⟨set, ask, fd, n2, tx⟩ (unhide HOK) (by show tx.length ≤ 500; have := unhide HDL; omega)
          rw [← unhide HDD] at this
          refine this.mono (fun e w' h => ⟨h.1, ?_, hide (unhide h.2).ls⟩)
          obtain ⟨q, Z, _, R, _, hB⟩ := unhide h.2
          obtain ⟨g, c, h, h2⟩ := R.cell hb
          injection h with h _ _
          injection h with h
          injection h with h
          refine ⟨?_, hB.cell 0 rfl, hB.cell 1 rfl, hB.cell 2 rfl, hB.cell 3 rfl, hB.cell 4 rfl⟩
          rw [h]
          exact h2)
        obtain ⟨M, hM⟩ : ∃ M, M = sb.length := ⟨_, rfl⟩
        rw [← hM] at HF HD hkM ⊢
        have hk3 : (k : Int) < (M : Int) := by omega
        have hk4 : (0 : Int) ≤ (k : Int) := by omega
        have HM := hide hM
        have HS2 := hide hs2
        have HS1 := hide hs1
        clear PA PB hb hk hs1 hs2 HOK HDD HDL hM
        by_cases h8 : ask = 8
        · subst h8
          clear HD
          go_wp2_with fail
          refine (unhide HF).mono ?_
          rintro e w4 ⟨c, rfl, h4⟩
          obtain ⟨v', w5, g5, c5, hr, rfl, hS⟩ := unhide h4
          have hM2 : M ≤ 101 := by have := unhide HM; have := unhide HS2; omega
          obtain ⟨oc, hoc, HOC⟩ := (unhide hS).open
          rw [List.length_append, List.length_singleton, ← unhide HM] at hoc
          have HO := hide HOC
          have ho1 : ¬ (oc : Int) < 0 := by omega
          have ho2 : ¬ (16 * ((M + 1 : Nat) : Int)) < (oc : Int) := by omega
          obtain ⟨VS, hVS⟩ : ∃ VS, VS = Value.slice (some ⟨gs, 0, none⟩) M cs := ⟨_, rfl⟩
          rw [← hVS] at hr ⊢
          have HRUN := hide hr
          clear h4 HF HOC q0 e0 e1 e2 e3 e4 hr hVS
          go_wp2_with (at_builtin; refine wpList_append_run rfl _ _ _ rfl _ _ _ rfl rfl (unhide HRUN) ?_)
          refine (unhide HO).mono ?_
          rintro e w6 ⟨rfl, hw⟩
          subst hw
          go_wp2_with fail
          refine (unhide HO).mono ?_
          rintro e w7 ⟨rfl, hw⟩
          subst hw
          clear HO
          go_wp2_with fail
          go_roundw
          case rel => exact ⟨z + 1, sb ++ [c], by go_num, by omega, by omega, by simp, by rw [List.length_append, List.length_singleton]; have := unhide HS2; omega, hS⟩
          case measure => simp [intOf]; omega
        · have h8' : (ask == 8) = false := by simpa using h8
          clear HF
          go_upto_region 15 with fail
          go_region_held3 (fun w' => w'.cell? ⟨gs, k, none⟩ = some (.pointer (some ⟨b, 0, none⟩)) ∧ w'.cell? ⟨nb, 0, none⟩ = some (.int .i64 set) ∧ w'.cell? ⟨nb, 1, none⟩ = some (.int .i64 ask) ∧ w'.cell? ⟨nb, 2, none⟩ = some (.int .i64 fd) ∧ w'.cell? ⟨nb, 3, none⟩ = some (.int .i64 n2) ∧ w'.cell? ⟨nb, 4, none⟩ = some (.string D)) (go_keep) ((go_at_call 10; refine (unhide HD _ (by first | exact Below.refl _ _ | exact below_drew _ _)).mono ?_; rintro e w4 ⟨⟨u, rfl⟩, ⟨q4, f0, f1, f2, f3, f4⟩, hS⟩))
          have hM2 : M ≤ 101 := by have := unhide HM; have := unhide HS2; omega
          obtain ⟨oc, hoc, HOC⟩ := (unhide hS).open
          rw [← unhide HM] at hoc
          have HO := hide HOC
          have ho1 : ¬ (oc : Int) < 0 := by omega
          have ho2 : ¬ (16 * (M : Int)) < (oc : Int) := by omega
          clear HD HOC q0 e0 e1 e2 e3 e4
          go_wp2_with fail
          refine (unhide HO).mono ?_
          rintro e w6 ⟨rfl, hw⟩
          subst hw
          go_wp2_with fail
          refine (unhide HO).mono ?_
          rintro e w7 ⟨rfl, hw⟩
          subst hw
          clear HO
          go_wp2_with fail
          go_roundw
          case rel => exact ⟨z + 1, sb, by go_num, by omega, by omega, unhide HS1, by have := unhide HS2; omega, hS⟩
          case measure => simp [intOf]; omega
      · have hd1 : (500 : Int) < (dl : Int) := by omega
        have HAW := hide (unhide HA WA (unhide PA).env)
        clear PA PB e0 e1 e2 e3 HA
        go_wp2_with fail
        refine (unhide HAW).mono ?_
        rintro e w4 ⟨rfl, hw⟩
        have H4 := hide hw
        clear hw HAW
        go_wp2_with fail
        go_ret
        exact ⟨rfl, unhide H4⟩
    · by_cases hzN : z < N
      · have hk1 : (z : Int) < (N : Int) := by omega
        have hk2 : ¬ (z : Int) < 100 := by omega
        obtain ⟨gs, cs, hu⟩ := (unhide HS).shape hs1
        subst hu
        have HE : Hid (LE w wr f x (.slice (some ⟨gs, 0, none⟩) sb.length cs) (2 + 16 * z + 16 * 0) sb 0) := hide (unhide HS).ends
        obtain ⟨M, hM⟩ : ∃ M, M = sb.length := ⟨_, rfl⟩
        rw [← hM] at HE ⊢
        have HM := hide hM
        have hM2 : M ≤ 101 := by omega
        clear HS hs1 hs2 hM HROW HIN HN
        go_wp2_with fail
        go_loopw [12] (fun i wr => ∃ (j : Nat), i = .int .i64 (j : Int) ∧ j ≤ M ∧ Hid (LE w wr f x (.slice (some ⟨gs, 0, none⟩) M cs) (2 + 16 * z + 16 * j) sb j)) (fun i _ => M + 1 - (intOf i).toNat)
        case atStart => exact ⟨0, rfl, Nat.zero_le _, HE⟩
        case round =>
          clear HE
          obtain ⟨j, rfl, hj, HJ⟩ := hrel
          by_cases hjl : j < M
          · have hj1 : (j : Int) < (M : Int) := by omega
            have hj0 : (0 : Int) ≤ (j : Int) := by omega
            obtain ⟨b, hb⟩ : ∃ b, sb[j]? = some b := ⟨_, List.getElem?_eq_getElem (by rw [← unhide HM]; exact hjl)⟩
            have HBB := hide hb
            have q1 : wr.cell? ⟨gs, j, none⟩ = some (.pointer (some ⟨b, 0, none⟩)) := by
              obtain ⟨g1, k1, hv1, q1⟩ := ((unhide HJ).end hb (by omega)).1
              injection hv1 with hv1 _ _
              injection hv1 with hv1
              injection hv1 with hv1
              rw [hv1]
              exact q1
            have HEN := hide ((unhide HJ).end hb (by omega)).2
            clear HJ hb
            go_wp2_with fail
            refine (unhide HEN).mono ?_
            rintro e w4 ⟨rfl, h4⟩
            have q2 : w4.cell? ⟨gs, j, none⟩ = some (.pointer (some ⟨b, 0, none⟩)) := by
              obtain ⟨g1, k1, hv1, q1⟩ := ((unhide h4).list (unhide HBB)).1
              injection hv1 with hv1 _ _
              injection hv1 with hv1
              injection hv1 with hv1
              rw [hv1]
              exact q1
            have HLI := hide ((unhide h4).list (unhide HBB)).2
            clear HEN h4 q1
            go_wp2_with fail
            refine (unhide HLI).mono ?_
            rintro e w5 ⟨ad5, c5, rfl, h5⟩
            clear HLI q2
            go_wp2_with fail
            go_roundw
            case rel => exact ⟨j + 1, by go_num, by omega, by rw [show 2 + 16 * z + 16 * (j + 1) = 2 + 16 * z + 16 * j + 16 by omega]; exact h5⟩
            case measure => simp [intOf]; omega
          · have hj1 : ¬ (j : Int) < (M : Int) := by omega
            have HAL := (unhide HJ).all (by rw [← unhide HM]; omega)
            have HOPN := hide HAL.1
            obtain ⟨q, Y, L, hD⟩ := HAL.2
            have HNM := hide (LT.names hD (by omega))
            have HNB : Hid (2 + 16 * z + 16 * j ≤ 4000) := hide (by omega)
            clear HJ HAL hD HM
            go_wp2_with fail
            refine (unhide HOPN).mono ?_
            rintro e w4 ⟨rfl, hw⟩
            subst hw
            clear HOPN
            go_wp2_with fail
            refine (unhide HNM).mono ?_
            rintro e w5 ⟨ad5, c5, rfl, h5⟩
            obtain ⟨K, hK⟩ : ∃ K, K = L.length := ⟨_, rfl⟩
            rw [← hK] at h5 ⊢
            have HK := hide hK
            have HKN : Hid (K ≤ 4000) := hide (by have := (unhide h5).len; have := unhide HNB; omega)
            clear HNM hK
            go_wp2_with fail
            go_loopw [15] (fun i wr => ∃ (t : Nat), i = .int .i64 (t : Int) ∧ t ≤ K ∧ Hid (LT w wr f (.slice ad5 K c5) (2 + 16 * z + 16 * j + t) L t)) (fun i _ => K + 1 - (intOf i).toNat)
            case atStart => exact ⟨0, rfl, Nat.zero_le _, h5⟩
            case round =>
              clear h5
              obtain ⟨t, rfl, ht, HT⟩ := hrel
              have hK4 := unhide HKN
              by_cases htl : t < K
              · have ht1 : (t : Int) < (K : Int) := by omega
                have ht0 : (0 : Int) ≤ (t : Int) := by omega
                obtain ⟨y, hy⟩ : ∃ y, L[t]? = some y := ⟨_, List.getElem?_eq_getElem (by rw [← unhide HK]; exact htl)⟩
                have HU := (unhide HT).unlink hy (by have := unhide HNB; have := unhide HKN; omega)
                obtain ⟨g5, rfl, q5⟩ : ∃ g, ad5 = some ⟨g, 0, none⟩ ∧ wr.cell? ⟨g, t, none⟩ = some (.string (BA y.name)) := by
                  obtain ⟨g1, k1, hv1, q1⟩ := HU.1
                  injection hv1 with hv1 _ _
                  exact ⟨g1, hv1, q1⟩
                have HUN := hide HU.2
                obtain ⟨YN, hYN⟩ : ∃ YN, YN = BA y.name := ⟨_, rfl⟩
                rw [← hYN] at q5 HUN
                clear HT hy HU hYN
                go_wp2_with fail
                refine (unhide HUN).mono ?_
                rintro e w6 ⟨rfl, h6⟩
                clear HUN q5
                go_wp2_with fail
                go_roundw
                case rel => exact ⟨t + 1, by go_num, by omega, h6⟩
                case measure => simp [intOf]; omega
              · have ht1 : ¬ (t : Int) < (K : Int) := by omega
                have HFE := (unhide HT).free (by rw [← unhide HK]; omega)
                have HFR : Hid (Calls Tryz.prog 7 #[.pointer (some ⟨f, 0, none⟩)] wr fun e w' => e = .returned (.tuple #[.int .i64 a0, .int .i64 b0]) ∧ w' = wr) := hide (by
                  have := HFE.1
                  rw [unhide HAB] at this
                  exact this)
                have HAW := hide (unhide HA wr HFE.2)
                clear HT HFE HA
                go_wp2_with fail
                refine (unhide HFR).mono ?_
                rintro e w6 ⟨rfl, hw⟩
                subst hw
                clear HFR
                go_wp2_with fail
                refine (unhide HAW).mono ?_
                rintro e w7 ⟨rfl, hw⟩
                have H7 := hide hw
                clear hw HAW
                go_wp2_with fail
                go_ret
                exact ⟨rfl, unhide H7⟩
      · have hk1 : ¬ (z : Int) < (N : Int) := by omega
        obtain ⟨gs, cs, hu⟩ := (unhide HS).shape hs1
        subst hu
        have HE : Hid (LE w wr f x (.slice (some ⟨gs, 0, none⟩) sb.length cs) (2 + 16 * z + 16 * 0) sb 0) := hide (unhide HS).ends
        obtain ⟨M, hM⟩ : ∃ M, M = sb.length := ⟨_, rfl⟩
        rw [← hM] at HE ⊢
        have HM := hide hM
        have hM2 : M ≤ 101 := by omega
        clear HS hs1 hs2 hM HROW HIN HN
        go_wp2_with fail
        go_loopw [12] (fun i wr => ∃ (j : Nat), i = .int .i64 (j : Int) ∧ j ≤ M ∧ Hid (LE w wr f x (.slice (some ⟨gs, 0, none⟩) M cs) (2 + 16 * z + 16 * j) sb j)) (fun i _ => M + 1 - (intOf i).toNat)
        case atStart => exact ⟨0, rfl, Nat.zero_le _, HE⟩
        case round =>
          clear HE
          obtain ⟨j, rfl, hj, HJ⟩ := hrel
          by_cases hjl : j < M
          · have hj1 : (j : Int) < (M : Int) := by omega
            have hj0 : (0 : Int) ≤ (j : Int) := by omega
            obtain ⟨b, hb⟩ : ∃ b, sb[j]? = some b := ⟨_, List.getElem?_eq_getElem (by rw [← unhide HM]; exact hjl)⟩
            have HBB := hide hb
            have q1 : wr.cell? ⟨gs, j, none⟩ = some (.pointer (some ⟨b, 0, none⟩)) := by
              obtain ⟨g1, k1, hv1, q1⟩ := ((unhide HJ).end hb (by omega)).1
              injection hv1 with hv1 _ _
              injection hv1 with hv1
              injection hv1 with hv1
              rw [hv1]
              exact q1
            have HEN := hide ((unhide HJ).end hb (by omega)).2
            clear HJ hb
            go_wp2_with fail
            refine (unhide HEN).mono ?_
            rintro e w4 ⟨rfl, h4⟩
            have q2 : w4.cell? ⟨gs, j, none⟩ = some (.pointer (some ⟨b, 0, none⟩)) := by
              obtain ⟨g1, k1, hv1, q1⟩ := ((unhide h4).list (unhide HBB)).1
              injection hv1 with hv1 _ _
              injection hv1 with hv1
              injection hv1 with hv1
              rw [hv1]
              exact q1
            have HLI := hide ((unhide h4).list (unhide HBB)).2
            clear HEN h4 q1
            go_wp2_with fail
            refine (unhide HLI).mono ?_
            rintro e w5 ⟨ad5, c5, rfl, h5⟩
            clear HLI q2
            go_wp2_with fail
            go_roundw
            case rel => exact ⟨j + 1, by go_num, by omega, by rw [show 2 + 16 * z + 16 * (j + 1) = 2 + 16 * z + 16 * j + 16 by omega]; exact h5⟩
            case measure => simp [intOf]; omega
          · have hj1 : ¬ (j : Int) < (M : Int) := by omega
            have HAL := (unhide HJ).all (by rw [← unhide HM]; omega)
            have HOPN := hide HAL.1
            obtain ⟨q, Y, L, hD⟩ := HAL.2
            have HNM := hide (LT.names hD (by omega))
            have HNB : Hid (2 + 16 * z + 16 * j ≤ 4000) := hide (by omega)
            clear HJ HAL hD HM
            go_wp2_with fail
            refine (unhide HOPN).mono ?_
            rintro e w4 ⟨rfl, hw⟩
            subst hw
            clear HOPN
            go_wp2_with fail
            refine (unhide HNM).mono ?_
            rintro e w5 ⟨ad5, c5, rfl, h5⟩
            obtain ⟨K, hK⟩ : ∃ K, K = L.length := ⟨_, rfl⟩
            rw [← hK] at h5 ⊢
            have HK := hide hK
            have HKN : Hid (K ≤ 4000) := hide (by have := (unhide h5).len; have := unhide HNB; omega)
            clear HNM hK
            go_wp2_with fail
            go_loopw [15] (fun i wr => ∃ (t : Nat), i = .int .i64 (t : Int) ∧ t ≤ K ∧ Hid (LT w wr f (.slice ad5 K c5) (2 + 16 * z + 16 * j + t) L t)) (fun i _ => K + 1 - (intOf i).toNat)
            case atStart => exact ⟨0, rfl, Nat.zero_le _, h5⟩
            case round =>
              clear h5
              obtain ⟨t, rfl, ht, HT⟩ := hrel
              have hK4 := unhide HKN
              by_cases htl : t < K
              · have ht1 : (t : Int) < (K : Int) := by omega
                have ht0 : (0 : Int) ≤ (t : Int) := by omega
                obtain ⟨y, hy⟩ : ∃ y, L[t]? = some y := ⟨_, List.getElem?_eq_getElem (by rw [← unhide HK]; exact htl)⟩
                have HU := (unhide HT).unlink hy (by have := unhide HNB; have := unhide HKN; omega)
                obtain ⟨g5, rfl, q5⟩ : ∃ g, ad5 = some ⟨g, 0, none⟩ ∧ wr.cell? ⟨g, t, none⟩ = some (.string (BA y.name)) := by
                  obtain ⟨g1, k1, hv1, q1⟩ := HU.1
                  injection hv1 with hv1 _ _
                  exact ⟨g1, hv1, q1⟩
                have HUN := hide HU.2
                obtain ⟨YN, hYN⟩ : ∃ YN, YN = BA y.name := ⟨_, rfl⟩
                rw [← hYN] at q5 HUN
                clear HT hy HU hYN
                go_wp2_with fail
                refine (unhide HUN).mono ?_
                rintro e w6 ⟨rfl, h6⟩
                clear HUN q5
                go_wp2_with fail
                go_roundw
                case rel => exact ⟨t + 1, by go_num, by omega, h6⟩
                case measure => simp [intOf]; omega
              · have ht1 : ¬ (t : Int) < (K : Int) := by omega
                have HFE := (unhide HT).free (by rw [← unhide HK]; omega)
                have HFR : Hid (Calls Tryz.prog 7 #[.pointer (some ⟨f, 0, none⟩)] wr fun e w' => e = .returned (.tuple #[.int .i64 a0, .int .i64 b0]) ∧ w' = wr) := hide (by
                  have := HFE.1
                  rw [unhide HAB] at this
                  exact this)
                have HAW := hide (unhide HA wr HFE.2)
                clear HT HFE HA
                go_wp2_with fail
                refine (unhide HFR).mono ?_
                rintro e w6 ⟨rfl, hw⟩
                subst hw
                clear HFR
                go_wp2_with fail
                refine (unhide HAW).mono ?_
                rintro e w7 ⟨rfl, hw⟩
                have H7 := hide hw
                clear hw HAW
                go_wp2_with fail
                go_ret
                exact ⟨rfl, unhide H7⟩

end Go.Proofs.YtemologkibcdoaaGreatDoor
